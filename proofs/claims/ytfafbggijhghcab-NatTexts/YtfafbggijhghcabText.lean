/-
  The contract of nat.Text.
-/
import Derived.Test.YtfafbggijhghcabRev
import Derived.Test.YtfafbggijhghcabNatD
import Derived.Test.YtfafbggijhghcabNatC
namespace Go.Proofs.Ytfafbggijhghcab
open Go.RowKit

/-- Digits as signs. -/
def sg10 (ds : List Int) : List Int := ds.map (fun d => 48 + d)

/-- What is told of a number's text. -/
def ResText (zs : List Int) (S : ByteArray) : Prop := if rightB zs = true then (if zs.length = 0 then S = ⟨#[48]⟩ else ∃ ds, Digs 10 ds ∧ Top ds ∧ val 10 ds = val 18446744073709551616 zs ∧ S = strOf (sg10 ds).reverse) else S = ⟨#[]⟩

theorem ResText.unique {zs : List Int} {S T : ByteArray} (h : ResText zs S) (h' : ResText zs T) : S = T := by
  unfold ResText at h h'
  split at h
  · rename_i hc
    rw [if_pos hc] at h'
    split at h
    · rename_i hc2
      rw [if_pos hc2] at h'
      rw [h, h']
    · rename_i hc2
      rw [if_neg hc2] at h'
      obtain ⟨ds, a1, a2, a3, rfl⟩ := h
      obtain ⟨es, b1, b2, b3, rfl⟩ := h'
      rw [val_inj (B := 10) (by decide) a1 b1 a2 b2 (a3.trans b3.symm)]
  · rename_i hc
    rw [if_neg hc] at h'
    rw [h, h']

theorem sg10_digs {ds : List Int} (h : Digs 10 ds) : Digs 256 (sg10 ds) := fun x hx => by
  obtain ⟨d, hd, rfl⟩ := List.mem_map.1 hx
  have := h d hd
  omega
theorem sg10_snoc (ds : List Int) (d : Int) : sg10 ds ++ [48 + d] = sg10 (ds ++ [d]) := by simp [sg10]
theorem sg10_len (ds : List Int) : (sg10 ds).length = ds.length := by simp [sg10]
theorem sg10_getD {ds : List Int} {j : Nat} (h : j < ds.length) : (sg10 ds).getD j 0 = 48 + ds.getD j 0 := by simp [sg10, List.getD, h]

theorem BOwn.kept {w w' : World} {base g : Nat} {v : Value} {zs : List Int} (h : BOwn w base v zs) (hg : w.grownBy w' (some g)) (hlt : g < base) : BOwn w' base v zs := by
  refine World.ownsRow.kept h hg ?_
  cases hb : v.ownBlock with
  | none => exact .inl rfl
  | some k =>
    right
    have := World.ownsRow.lt h k hb
    intro e
    cases e
    omega

theorem BOwn.blk {w : World} {base : Nat} {v : Value} {zs : List Int} (h : BOwn w base v zs) (h0 : 0 < zs.length) : ∃ g cap, v = .slice (some ⟨g, 0, none⟩) zs.length cap ∧ base ≤ g ∧ BBlk w g zs ∧ zs.length ≤ cap ∧ cap ≤ maxLen := by
  obtain ⟨h1, h2⟩ := h
  rcases h2 with ⟨rfl, hn⟩ | ⟨g, cap, cur, rfl, hb, hg, hnc, hcm, hcs, htk⟩
  · omega
  · exact ⟨g, cap, rfl, hb, ⟨cur, hg, by simpa using htk⟩, hnc, hcm⟩

/-- A digit more of a group. -/
theorem tx_digit {ds : List Int} {E V r : Int} (hd : Digs 10 ds) (hv : val 10 ds + 10 ^ ds.length * (r + V) = E) (hV : V = 10 * (V / 10)) :
    Digs 10 (ds ++ [r % 10]) ∧ val 10 (ds ++ [r % 10]) + 10 ^ (ds ++ [r % 10]).length * (r / 10 + V / 10) = E := by
  refine ⟨hd.snoc ⟨by omega, by omega⟩, ?_⟩
  rw [val_snoc, List.length_append, List.length_cons, List.length_nil, Int.pow_succ, Int.mul_assoc]
  have e : r + V = r % 10 + 10 * (r / 10 + V / 10) := by omega
  rw [e, Int.mul_add] at hv
  omega

theorem tx_pow {q : Int} {t : Nat} (h : t < 19) : 10000000000000000000 * q / 10 ^ t = 10 * (10000000000000000000 * q / 10 ^ t / 10) := by
  have e : (10000000000000000000 : Int) * q = 10 ^ t * (10 * (10 ^ (18 - t) * q)) := by
    rw [← Int.mul_assoc 10, ← Int.mul_assoc (10 ^ t)]
    congr 1
    have : (10 : Int) ^ t * (10 * 10 ^ (18 - t)) = 10 ^ 19 := by
      rw [show (10 : Int) * 10 ^ (18 - t) = 10 ^ (18 - t + 1) by rw [Int.pow_succ, Int.mul_comm], ← Int.pow_add]
      congr 1; omega
    rw [this]; decide
  have hp := pow_pos' (B := 10) (by decide) t
  rw [e, Int.mul_ediv_cancel_left _ (by omega)]
  omega

theorem tx_next (q : Int) (t : Nat) : 10000000000000000000 * q / 10 ^ t / 10 = 10000000000000000000 * q / 10 ^ (t + 1) := by
  rw [Int.ediv_ediv_of_nonneg (Int.le_of_lt (pow_pos' (by decide) t)), Int.pow_succ]

theorem tx_end (q : Int) : 10000000000000000000 * q / 10 ^ 19 = q := by
  rw [show (10 : Int) ^ 19 = 10000000000000000000 by decide, Int.mul_ediv_cancel_left _ (by decide)]

/-- Signs without the noughts behind, turned around. -/
theorem tx_last {ds : List Int} {E : Int} {zs : List Int} (hd : Digs 10 ds) (hv : val 10 ds = E) (hz : val 18446744073709551616 zs = E) (hr : rightB zs = true) (h0 : zs.length ≠ 0) {k : Nat} (hk : Trim ds k) {M : List Int} (hM : ∀ q, q < k → M.getD q 0 = (sg10 ds).getD (k - 1 - q) 0) : ResText zs (strOf (M.take k)) ∨ M.length < k := by
  by_cases hl : M.length < k
  · exact .inr hl
  · left
    unfold ResText
    rw [if_pos hr, if_neg h0]
    refine ⟨ds.take k, hd.take k, hk.Top, by rw [hk.val, hv, hz], ?_⟩
    congr 1
    have hkl := hk.le
    apply List.ext_getElem
    · simp [sg10]; omega
    · intro q h1 h2
      simp at h1
      have e1 := hM q (by omega)
      rw [sg10_getD (by omega)] at e1
      have hq : k - 1 - q < ds.length := by omega
      simp only [sg10, List.getElem_take, List.getElem_reverse, List.getElem_map, List.length_map, List.length_take, Nat.min_eq_left hkl]
      simpa [List.getD, show q < M.length by omega, hq] using e1
end Go.Proofs.Ytfafbggijhghcab
