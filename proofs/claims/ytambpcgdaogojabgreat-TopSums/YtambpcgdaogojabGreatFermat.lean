/-
  A power to one less than a prime leaves 1; a power to the inverse exponent undoes a power.
-/
import Derived.Test.YtambpcgdaogojabGreatEucA
namespace Go.Proofs.YtambpcgdaogojabGreat


theorem covers : ∀ (l1 l2 : List Nat), l1.Nodup → (∀ x, x ∈ l1 → x ∈ l2) → l2.length ≤ l1.length → ∀ x, x ∈ l2 → x ∈ l1
  | [], l2, _, _, hl, x, hx => by
    have : l2 = [] := List.eq_nil_of_length_eq_zero (by simpa using hl)
    subst this; exact hx
  | a :: l1, l2, hn, hs, hl, x, hx => by
    rw [List.nodup_cons] at hn
    have ha : a ∈ l2 := hs a (List.mem_cons_self ..)
    by_cases hxa : x = a
    · subst hxa; exact List.mem_cons_self ..
    · refine List.mem_cons_of_mem _ (covers l1 (l2.erase a) hn.2 (fun y hy => ?_) ?_ x ((List.mem_erase_of_ne hxa).2 hx))
      · have : y ≠ a := by intro e; subst e; exact hn.1 hy
        exact (List.mem_erase_of_ne this).2 (hs y (List.mem_cons_of_mem _ hy))
      · rw [List.length_erase_of_mem ha]
        simp only [List.length_cons] at hl
        omega

/-- No divisor but 1 and itself. -/
def Pr (p : Nat) : Prop := 2 ≤ p ∧ ∀ d, 2 ≤ d → d < p → ¬ d ∣ p

theorem pr_of {p : Nat} (h2 : 2 ≤ p) (h : ∀ d, 2 ≤ d → d * d ≤ p → p % d ≠ 0) : Pr p := by
  refine ⟨h2, fun d hd hlt hdv => ?_⟩
  obtain ⟨e, he⟩ := hdv
  have he2 : 2 ≤ e := by
    rcases Nat.lt_or_ge e 2 with h' | h'
    · have : e = 0 ∨ e = 1 := by omega
      rcases this with rfl | rfl <;> simp at he <;> omega
    · exact h'
  rcases Nat.le_total d e with hde | hde
  · exact h d hd (by rw [he]; exact Nat.mul_le_mul_left _ hde) (by rw [he]; exact Nat.mul_mod_right _ _)
  · exact h e he2 (by rw [he]; exact Nat.mul_le_mul_right _ hde) (by rw [he, Nat.mul_comm]; exact Nat.mul_mod_right _ _)

theorem Pr.coprime {p a : Nat} (h : Pr p) (h0 : a % p ≠ 0) : Nat.Coprime p a := by
  unfold Nat.Coprime
  have hg1 := Nat.gcd_dvd_left p a
  have hg2 := Nat.gcd_dvd_right p a
  have hpos : 0 < Nat.gcd p a := Nat.gcd_pos_of_pos_left _ (by have := h.1; omega)
  have hle := Nat.le_of_dvd (by have := h.1; omega) hg1
  rcases Nat.lt_or_ge (Nat.gcd p a) 2 with h' | h'
  · omega
  · rcases Nat.lt_or_ge (Nat.gcd p a) p with h'' | h''
    · exact absurd hg1 (h.2 _ h' h'')
    · have e : Nat.gcd p a = p := by omega
      rw [e] at hg2
      exact absurd (Nat.mod_eq_zero_of_dvd hg2) h0

theorem prod_map (a p : Nat) : ∀ l : List Nat, (l.map (fun i => a * i % p)).prod % p = (a ^ l.length * l.prod) % p
  | [] => by simp
  | i :: l => by
    have ih := prod_map a p l
    simp only [List.map_cons, List.prod_cons, List.length_cons]
    rw [Nat.mul_mod, Nat.mod_mod, ih, ← Nat.mul_mod]
    congr 1
    rw [Nat.pow_succ]
    simp only [Nat.mul_assoc, Nat.mul_comm, Nat.mul_left_comm]

theorem prod_coprime {p : Nat} : ∀ l : List Nat, (∀ x, x ∈ l → Nat.Coprime p x) → Nat.Coprime p l.prod
  | [], _ => by simp
  | i :: l, h => by
    rw [List.prod_cons]
    exact Nat.Coprime.mul_right (h i (List.mem_cons_self ..)) (prod_coprime l fun x hx => h x (List.mem_cons_of_mem _ hx))

theorem fermat {p a : Nat} (h : Pr p) (ha : a % p ≠ 0) : a ^ (p - 1) % p = 1 := by
  have h2 := h.1
  have hc := h.coprime ha
  have hL : (List.range' 1 (p - 1)).Nodup := List.nodup_range' 1
  have hmem : ∀ x, x ∈ List.range' 1 (p - 1) ↔ 1 ≤ x ∧ x < p := fun x => by rw [List.mem_range'_1]; omega
  have hinto : ∀ x, x ∈ List.range' 1 (p - 1) → a * x % p ∈ List.range' 1 (p - 1) := fun x hx => by
    rw [hmem] at hx ⊢
    refine ⟨?_, Nat.mod_lt _ (by omega)⟩
    rcases Nat.eq_zero_or_pos (a * x % p) with h0 | h0
    · have hd := Nat.Coprime.dvd_of_dvd_mul_left hc (Nat.dvd_of_mod_eq_zero h0)
      have := Nat.le_of_dvd (by omega) hd
      omega
    · exact h0
  have hinj : ∀ x y, x ∈ List.range' 1 (p - 1) → y ∈ List.range' 1 (p - 1) → x ≤ y → a * x % p = a * y % p → x = y := fun x y hx hy hle he => by
    rw [hmem] at hx hy
    have hd : p ∣ a * (y - x) := by
      rw [Nat.mul_sub]
      exact Nat.dvd_of_mod_eq_zero (Nat.sub_mod_eq_zero_of_mod_eq he.symm)
    have hd2 := Nat.Coprime.dvd_of_dvd_mul_left hc hd
    rcases Nat.eq_zero_or_pos (y - x) with h0 | h0
    · omega
    · have := Nat.le_of_dvd h0 hd2; omega
  have hMn : ((List.range' 1 (p - 1)).map (fun i => a * i % p)).Nodup := by
    unfold List.Nodup
    rw [List.pairwise_map]
    refine List.Pairwise.imp_of_mem ?_ hL
    intro x y hx hy hne he
    rcases Nat.le_total x y with hxy | hxy
    · exact hne (hinj x y hx hy hxy he)
    · exact hne (hinj y x hy hx hxy he.symm).symm
  have hsub : ∀ x, x ∈ (List.range' 1 (p - 1)).map (fun i => a * i % p) → x ∈ List.range' 1 (p - 1) := fun x hx => by
    obtain ⟨i, hi, rfl⟩ := List.mem_map.1 hx
    exact hinto i hi
  have hperm := (List.perm_ext_iff_of_nodup hMn hL).2 fun x => ⟨hsub x, covers _ _ hMn hsub (by simp) x⟩
  have hprod := List.Perm.prod_nat hperm
  have hm := prod_map a p (List.range' 1 (p - 1))
  rw [hprod] at hm
  have hcp : Nat.Coprime p (List.range' 1 (p - 1)).prod := prod_coprime _ fun x hx => by
    rw [hmem] at hx
    exact h.coprime (by rw [Nat.mod_eq_of_lt hx.2]; omega)
  simp only [List.length_range'] at hm
  generalize (List.range' 1 (p - 1)).prod = F at *
  have hpos : 1 ≤ a ^ (p - 1) := Nat.pos_of_ne_zero (by
    intro e
    have : a = 0 := by
      rcases Nat.eq_zero_or_pos a with h0 | h0
      · exact h0
      · have := Nat.pow_pos (n := p - 1) h0; omega
    subst this; simp at ha)
  have hd : p ∣ F * (a ^ (p - 1) - 1) := by
    rw [Nat.mul_sub, Nat.mul_one, Nat.mul_comm]
    exact Nat.dvd_of_mod_eq_zero (Nat.sub_mod_eq_zero_of_mod_eq hm.symm)
  have hd2 := Nat.Coprime.dvd_of_dvd_mul_left hcp hd
  obtain ⟨k, hk⟩ := hd2
  have e : a ^ (p - 1) = 1 + p * k := by omega
  rw [e, Nat.add_mul_mod_self_left]
  exact Nat.mod_eq_of_lt (by omega)

/-- A power to the inverse exponent undoes the power. -/
theorem undo {p x e i : Nat} (h : Pr p) (hp : 3 ≤ p) (hx : x < p) (hei : e * i % (p - 1) = 1 % (p - 1)) (h0 : 0 < e * i) : (x ^ e % p) ^ i % p = x := by
  rw [← Nat.pow_mod, ← Nat.pow_mul]
  rcases Nat.eq_zero_or_pos x with rfl | hpos
  · rw [Nat.zero_pow h0, Nat.zero_mod]
  · have h1 : e * i % (p - 1) = 1 := by rw [hei]; exact Nat.mod_eq_of_lt (by omega)
    have hd := Nat.div_add_mod (e * i) (p - 1)
    rw [h1] at hd
    rw [← hd, Nat.pow_succ, Nat.pow_mul, Nat.mul_mod, Nat.pow_mod, fermat h (by rw [Nat.mod_eq_of_lt hx]; omega), Nat.one_pow, Nat.mod_eq_of_lt (show 1 < p by omega), Nat.one_mul, Nat.mod_mod, Nat.mod_eq_of_lt hx]
end Go.Proofs.YtambpcgdaogojabGreat
