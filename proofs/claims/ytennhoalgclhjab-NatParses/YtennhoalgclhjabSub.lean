/-
  Contracts of slices.Clone and nat.Sub: a copy in new memory; the difference of two numbers.
-/
import Derived.Test.YtennhoalgclhjabTwo
import Derived.Test.YtennhoalgclhjabTakeFrom
import Derived.Lib.SliceRun
namespace Go.Proofs.Ytennhoalgclhjab
open Go.RowKit

theorem Own.fresh {w : World} {base : Nat} {v : Value} {zs : List Int} (h : Own w base v zs) (hd : Digs 18446744073709551616 zs) :
    ∃ a n cap, v = .slice a n cap ∧ Nums w a n cap zs ∧ (0 < n → ∃ g, a = some ⟨g, 0, none⟩ ∧ base ≤ g ∧ Blk w g zs) := by
  obtain ⟨h1, h2⟩ := h
  rcases h2 with ⟨rfl, hn⟩ | ⟨g, cap, cur, rfl, hb, hg, hnc, hcm, hcs, htk⟩
  · have e : zs = [] := List.eq_nil_of_length_eq_zero hn
    subst e
    exact ⟨none, 0, 0, rfl, Nums.nil _, fun h => absurd h (Nat.lt_irrefl _)⟩
  · have hblk : Blk w g zs := ⟨cur, hg, by simpa using htk⟩
    refine ⟨some ⟨g, 0, none⟩, zs.length, cap, rfl, ⟨rfl, hnc, hcm, fun _ => ⟨g, 0, rfl, fun i hi => ?_⟩, hd⟩, fun _ => ⟨g, rfl, hb, hblk⟩⟩
    rw [Nat.zero_add]; exact hblk.cell hi

set_option maxHeartbeats 400000 in
theorem clone_any (a : Option Addr) (len cap : Nat) (zs : List Int) (w : World) (h : Nums w a len cap zs) (hn : len ≤ 100000) :
    Calls Try.prog 31 #[.slice a len cap] w fun e w' => ∃ a' n cap', e = .returned (.slice a' n cap') ∧ Nums w' a' n cap' zs ∧ (0 < n → ∃ g, a' = some ⟨g, 0, none⟩ ∧ w.heap.size ≤ g ∧ Blk w' g zs) ∧ Below w.heap.size w w' := by
  have hd := h.digs
  cases a with
  | none =>
    have hm : len = 0 := by
      rcases Nat.eq_zero_or_pos len with h0 | h0
      · exact h0
      · obtain ⟨b, off, e, _⟩ := h.cells h0; cases e
    subst hm
    have e : zs = [] := List.eq_nil_of_length_eq_zero h.hlen
    subst e
    have heq := fun wx => Lib.run_eql_slice_nil (P := Try.prog) wx 23 29 none 0 cap 0 0 Try.underlying23
    go_enter Try.func31, Try.ntmps31
    go_wp2
    go_ret
    exact ⟨none, 0, 0, rfl, Nums.nil _, fun h => absurd h (Nat.lt_irrefl _), Below.refl _ _⟩
  | some x =>
    have heq := fun wx => Lib.run_eql_slice_nil (P := Try.prog) wx 23 29 (some x) len cap 0 0 Try.underlying23
    go_enter Try.func31, Try.ntmps31
    have hown := Own.empty w
    have hb0 := (Below.refl w.heap.size w).alloc (Nat.le_refl _) (.cells #[] 29)
    have h1 := h.below hb0
    go_wp2_with (at_builtin; refine wpList_appN _ rfl _ _ 23 rfl Try.underlying23 w.heap.size _ [] rfl hown (some x) len cap zs rfl h1 ?_ ?_ w ?_ hb0 ?_)
    · intro e; cases e
    · simp; omega
    · simp
    · intro v' w2 hown1 hb1
      obtain ⟨a1, n1, cap1, rfl, hn1, hfr⟩ := hown1.fresh hd
      clear hown1 hown h1 hb0
      go_wp2
      go_ret
      exact ⟨_, _, _, rfl, hn1, hfr, hb1⟩

/-- What is told of a difference. -/
def ResSub (zs ys : List Int) (ls : List Int) (err : Int) : Prop :=
  if rightB zs && rightB ys then (if val 18446744073709551616 zs < val 18446744073709551616 ys then err = 2 ∧ ls = [] else Res (val 18446744073709551616 zs - val 18446744073709551616 ys) ls err) else err = 1 ∧ ls = []

theorem ResSub.unique {zs ys : List Int} {ls ks : List Int} {e f : Int} (h : ResSub zs ys ls e) (h' : ResSub zs ys ks f) : ls = ks ∧ e = f := by
  unfold ResSub at h h'
  split at h
  · rename_i hc
    rw [if_pos hc] at h'
    split at h
    · rename_i hc2
      rw [if_pos hc2] at h'
      obtain ⟨rfl, rfl⟩ := h
      obtain ⟨rfl, rfl⟩ := h'
      exact ⟨rfl, rfl⟩
    · rename_i hc2
      rw [if_neg hc2] at h'
      exact h.unique h'
  · rename_i hc
    rw [if_neg hc] at h'
    obtain ⟨rfl, rfl⟩ := h
    obtain ⟨rfl, rfl⟩ := h'
    exact ⟨rfl, rfl⟩

theorem sub_end {B : Int} (hB : 0 < B) {zs ys M : List Int} {n : Nat} {bw : Int} (hz : Digs B zs) (hy : Digs B ys) (ty : Top ys) (hge : val B ys ≤ val B zs) (hM : Digs B M) (hzl : zs.length = n) (hMl : M.length = zs.length) (hbw : 0 ≤ bw ∧ bw ≤ 1)
    (hv : vs B (fun i => M.getD (0 + i) 0) n - B ^ n * bw = vs B (fun i => zs.getD (0 + i) 0) n - vs B (fun i => ys.getD i 0) n) : val B M = val B zs - val B ys := by
  have hle : ys.length ≤ n := by
    by_cases h : ys.length ≤ n
    · exact h
    · have := val_lt_of_len hB hz hy ty (by omega); omega
  simp only [Nat.zero_add] at hv
  rw [vs_all _ M (by omega), vs_all _ zs (by omega), vs_all _ ys hle] at hv
  have b1 := val_lt hB hM
  rw [hMl, hzl] at b1
  have hc : bw = 0 ∨ bw = 1 := by omega
  rcases hc with rfl | rfl <;> omega

end Go.Proofs.Ytennhoalgclhjab
