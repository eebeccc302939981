/-
  The contract of slices.Sort of whole numbers: a row of the call's own, sorted.
-/
import Derived.Test.YtaiikhbfnfcalabW12A
import Derived.Shelf.Sort.Plain
import Derived.Shelf.Slices.In.SortNone
import Derived.Sort.OwnSortedInts
namespace Go.Proofs.Ytaiikhbfnfcalab
open Go.RowKit Go.Shelf Go.Sort

def sort_ren : Go.Shelf.Ren := ⟨fun | 189 => 19 | 125 => 29 | 257 => 28 | 128 => 40 | 129 => 41 | 294 => 31 | 295 => 32 | 296 => 33 | 297 => 34 | 298 => 35 | 299 => 36 | 216 => 37 | 300 => 38 | 301 => 39 | 328 => 42 | 329 => 43 | 330 => 44 | 331 => 45 | 332 => 46 | 215 => 47 | 343 => 48 | n => n, fun | 28 => 22 | 3 => 3 | 46 => 57 | 0 => 0 | 51 => 72 | 53 => 43 | 4 => 4 | 183 => 64 | 182 => 63 | 131 => 69 | 5 => 5 | 9 => 9 | 218 => 73 | 222 => 77 | 228 => 79 | 229 => 80 | n => n, fun n => n⟩
theorem sort_lays : Lays.n189 Try.prog sort_ren :=
  { mixed := by kernel_rfl,
    f125 := Try.func29.trans (by kernel_rfl),
    f128 := Try.func40.trans (by kernel_rfl),
    f129 := Try.func41.trans (by kernel_rfl),
    f189 := Try.func19.trans (by kernel_rfl),
    f215 := Try.func47.trans (by kernel_rfl),
    f216 := Try.func37.trans (by kernel_rfl),
    f257 := Try.func28.trans (by kernel_rfl),
    f294 := Try.func31.trans (by kernel_rfl),
    f295 := Try.func32.trans (by kernel_rfl),
    f296 := Try.func33.trans (by kernel_rfl),
    f297 := Try.func34.trans (by kernel_rfl),
    f298 := Try.func35.trans (by kernel_rfl),
    f299 := Try.func36.trans (by kernel_rfl),
    f300 := Try.func38.trans (by kernel_rfl),
    f301 := Try.func39.trans (by kernel_rfl),
    f328 := Try.func42.trans (by kernel_rfl),
    f329 := Try.func43.trans (by kernel_rfl),
    f330 := Try.func44.trans (by kernel_rfl),
    f331 := Try.func45.trans (by kernel_rfl),
    f332 := Try.func46.trans (by kernel_rfl),
    f343 := Try.func48.trans (by kernel_rfl),
    t0 := by kernel_rfl, a0 := fun _ => by kernel_rfl, z0 := fun _ => by kernel_rfl, v0 := fun _ => by kernel_rfl,
    t3 := by kernel_rfl, a3 := fun _ => by kernel_rfl, z3 := fun _ => by kernel_rfl, v3 := fun _ => by kernel_rfl,
    t4 := by kernel_rfl, a4 := fun _ => by kernel_rfl, z4 := fun _ => by kernel_rfl, v4 := fun _ => by kernel_rfl,
    t5 := by kernel_rfl, a5 := fun _ => by kernel_rfl, z5 := fun _ => by kernel_rfl, v5 := fun _ => by kernel_rfl,
    t9 := by kernel_rfl, a9 := fun _ => by kernel_rfl, z9 := fun _ => by kernel_rfl, v9 := fun _ => by kernel_rfl,
    t28 := by kernel_rfl, a28 := fun _ => by kernel_rfl, z28 := fun _ => by kernel_rfl, v28 := fun _ => by kernel_rfl,
    t46 := by kernel_rfl, a46 := fun _ => by kernel_rfl, z46 := fun _ => by kernel_rfl, v46 := fun _ => by kernel_rfl,
    t51 := by kernel_rfl, a51 := fun _ => by kernel_rfl, z51 := fun _ => by kernel_rfl, v51 := fun _ => by kernel_rfl,
    t53 := by kernel_rfl, a53 := fun _ => by kernel_rfl, z53 := fun _ => by kernel_rfl, v53 := fun _ => by kernel_rfl,
    t131 := by kernel_rfl, a131 := fun _ => by kernel_rfl, z131 := fun _ => by kernel_rfl, v131 := fun _ => by kernel_rfl,
    t182 := by kernel_rfl, a182 := fun _ => by kernel_rfl, z182 := fun _ => by kernel_rfl, v182 := fun _ => by kernel_rfl,
    t183 := by kernel_rfl, a183 := fun _ => by kernel_rfl, z183 := fun _ => by kernel_rfl, v183 := fun _ => by kernel_rfl,
    t218 := by kernel_rfl, a218 := fun _ => by kernel_rfl, z218 := fun _ => by kernel_rfl, v218 := fun _ => by kernel_rfl,
    t222 := by kernel_rfl, a222 := fun _ => by kernel_rfl, z222 := fun _ => by kernel_rfl, v222 := fun _ => by kernel_rfl,
    t228 := by kernel_rfl, a228 := fun _ => by kernel_rfl, z228 := fun _ => by kernel_rfl, v228 := fun _ => by kernel_rfl,
    t229 := by kernel_rfl, a229 := fun _ => by kernel_rfl, z229 := fun _ => by kernel_rfl, v229 := fun _ => by kernel_rfl }
def leI (x y : Int) : Bool := decide (x ≤ y)
/-- A row of the call's own, sorted in place. -/
theorem sortI_any {w : World} {base : Nat} {v : Value} {xs : List Int} (h : IOwn w base v xs) (hl : xs.length < 1000000) : Calls Try.prog 19 #[v] w fun e w' => e = .returned (.tuple #[]) ∧ IOwn w' base v (xs.mergeSort leI) ∧ w.grownBy w' v.ownBlock := by
  have h' := h
  obtain ⟨h1, h2⟩ := h
  rcases h2 with ⟨rfl, hn⟩ | ⟨g, cap, cur, rfl, hb, hg, hnc, hcm, hcs, htk⟩
  · have e : xs = [] := List.eq_nil_of_length_eq_zero hn
    subst e
    refine (Any.slices_Sort_int_none sort_lays none 0 w).mono ?_
    rintro e w' ⟨rfl, rfl⟩
    exact ⟨rfl, by simpa using h', ⟨rfl, rfl, rfl, Nat.le_refl _, fun _ _ _ => rfl⟩⟩
  · refine (Any.slices_Sort_int sort_lays g 0 cap xs w (holds_of_blockI hg (by rw [Nat.mul_one] at htk; exact htk)) (Array.getElem?_eq_some_iff.1 hg).1 (by omega)).mono ?_
    rintro e w' ⟨rfl, n, os, rfl⟩
    have hlen : (xs.mergeSort leI).length = xs.length := List.length_mergeSort xs
    refine ⟨rfl, ?_, grownBy_sortedI _⟩
    have := ownsRow_sortedI (n := n) (os := os) (ss := xs) (ts := xs.mergeSort leI) hlen hb hg hnc hcm hcs
    unfold IOwn
    rw [hlen]
    exact this
theorem sortI_of {xs ys : List Int} (h : xs.Perm ys) (hy : ys.Pairwise (· < ·)) : xs.mergeSort leI = ys := by
  have tr : ∀ a b c : Int, leI a b = true → leI b c = true → leI a c = true := fun a b c h1 h2 => by simp only [leI, decide_eq_true_eq] at *; omega
  have tot : ∀ a b : Int, (leI a b || leI b a) = true := fun a b => by simp only [leI, Bool.or_eq_true, decide_eq_true_eq]; omega
  exact List.Perm.eq_of_pairwise (le := fun a b => leI a b = true) (fun a b _ _ h1 h2 => by simp only [leI, decide_eq_true_eq] at h1 h2; omega) (List.pairwise_mergeSort tr tot xs) (hy.imp fun {a b} h => by simp only [leI, decide_eq_true_eq]; omega) ((List.mergeSort_perm xs leI).trans h)
end Go.Proofs.Ytaiikhbfnfcalab
