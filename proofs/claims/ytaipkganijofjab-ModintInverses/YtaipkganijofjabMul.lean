/-
  The contract of nat.Mul.
-/
import Derived.Test.YtaipkganijofjabKara
import Derived.Test.YtaipkganijofjabTwo
namespace Go.Proofs.Ytaipkganijofjab
open Go.RowKit

/-- Each number has its list of digits. -/
theorem digs_exist {B : Int} (hB : 1 < B) : ∀ (n : Nat) (v : Int), 0 ≤ v → v ≤ n → ∃ zs, Digs B zs ∧ Top zs ∧ val B zs = v
  | 0, v, h0, hn => ⟨[], Digs.nil _, .inl rfl, by simp [val]; omega⟩
  | n + 1, v, h0, hn => by
    by_cases hv : v = 0
    · exact ⟨[], Digs.nil _, .inl rfl, by simp [val, hv]⟩
    · have hq0 : 0 ≤ v / B := Int.ediv_nonneg h0 (by omega)
      have hq1 : v / B < v := Int.ediv_lt_self_of_pos_of_ne_one (by omega) (by omega)
      obtain ⟨r, hd, ht, hval⟩ := digs_exist hB n (v / B) hq0 (by omega)
      have hm0 : 0 ≤ v % B := Int.emod_nonneg _ (by omega)
      have hm1 : v % B < B := Int.emod_lt_of_pos _ (by omega)
      have e := Int.emod_add_mul_ediv v B
      refine ⟨v % B :: r, fun x hx => ?_, ?_, by rw [val, hval]; exact e⟩
      · rcases List.mem_cons.1 hx with rfl | hx
        · exact ⟨hm0, hm1⟩
        · exact hd x hx
      · right
        rcases ht with rfl | ht
        · simp [val] at hval
          rw [← hval] at e
          simp; omega
        · have hr : r ≠ [] := by intro e; subst e; simp at ht
          have hl : 0 < r.length := by cases r <;> simp_all
          obtain ⟨k, hk⟩ : ∃ k, r.length = k + 1 := ⟨r.length - 1, by omega⟩
          rw [hk] at ht
          simp only [Nat.add_sub_cancel] at ht
          simpa [hk] using ht

theorem long_mk {v : Int} (h0 : 0 ≤ v) {k : Nat} (hk : 64 ≤ k) (hv : 18446744073709551616 ^ k ≤ v) : Res v [] 4 := by
  obtain ⟨zs, hd, ht, e⟩ := digs_exist (B := 18446744073709551616) (by decide) v.toNat v h0 (by omega)
  refine .inr ⟨rfl, rfl, zs, hd, ht, e, ?_⟩
  have h1 := val_lt (B := 18446744073709551616) (by decide) hd
  rw [e] at h1
  by_cases hl : 64 < zs.length
  · exact hl
  · have h2 := pow_mono (B := 18446744073709551616) (by decide) (show zs.length ≤ k by omega)
    omega

theorem mul_long {xs ys : List Int} (hx : Digs 18446744073709551616 xs) (hy : Digs 18446744073709551616 ys) (tx : Top xs) (ty : Top ys) (h1 : 0 < xs.length) (h2 : 0 < ys.length) (h : 64 < xs.length + ys.length - 1) :
    Res (val 18446744073709551616 xs * val 18446744073709551616 ys) [] 4 := by
  have a1 := val_ge (B := 18446744073709551616) (by decide) hx tx (by intro e; subst e; simp at h1)
  have a2 := val_ge (B := 18446744073709551616) (by decide) hy ty (by intro e; subst e; simp at h2)
  have p1 := pow_pos' (B := 18446744073709551616) (by decide) (xs.length - 1)
  have p2 := pow_pos' (B := 18446744073709551616) (by decide) (ys.length - 1)
  refine long_mk (mul_nn (by omega) (by omega)) (k := (xs.length - 1) + (ys.length - 1)) (by omega) ?_
  rw [Int.pow_add]
  exact Int.mul_le_mul a1 a2 (by omega) (by omega)

theorem res_zero {v : Int} (h : v = 0) : Res v [] 0 := by
  subst h; exact .inl ⟨rfl, Digs.nil _, .inl rfl, by decide, rfl⟩

set_option maxHeartbeats 800000 in
theorem mul_any (a b : Option Addr) (la ca lb cb : Nat) (zs ys : List Int) (w : World) (h : Nums w a la ca zs) (h' : Nums w b lb cb ys) :
    Calls Try.prog 44 #[.slice a la ca, .slice b lb cb] w fun e w' => ∃ a' n cap' ls err, e = .returned (.tuple #[.slice a' n cap', .int .i64 err]) ∧ Nums w' a' n cap' ls ∧
      Res2 zs ys (val 18446744073709551616 zs * val 18446744073709551616 ys) ls err ∧ Fresh w w' a' n ∧ Below w.heap.size w w' := by
  have hl := h.hlen
  have hl' := h'.hlen
  cases hr : rightB zs with
  | false =>
    go_enter Try.func44, Try.ntmps44
    go_wp2_with fail
    refine (right_any _ _ _ _ _ h).mono ?_
    rintro e w' ⟨rfl, rfl⟩
    go_wp2_with fail
    go_ret2
    exact ⟨none, 0, 0, [], 1, rfl, Nums.nil _, by simp [Res2, hr], fun hp => absurd hp (Nat.lt_irrefl _), Below.refl _ _⟩
  | true =>
  cases hr' : rightB ys with
  | false =>
    go_enter Try.func44, Try.ntmps44
    go_wp2_with fail
    refine (right_any _ _ _ _ _ h).mono ?_
    rintro e w' ⟨rfl, rfl⟩
    go_wp2_with fail
    refine (right_any _ _ _ _ _ h').mono ?_
    rintro e w' ⟨rfl, rfl⟩
    go_wp2_with fail
    go_ret2
    exact ⟨none, 0, 0, [], 1, rfl, Nums.nil _, by simp [Res2, hr'], fun hp => absurd hp (Nat.lt_irrefl _), Below.refl _ _⟩
  | true =>
    have hla : la ≤ 64 := by have := right_len hr; omega
    have hlb : lb ≤ 64 := by have := right_len hr'; omega
    have res2 : ∀ ls err, Res (val 18446744073709551616 zs * val 18446744073709551616 ys) ls err → Res2 zs ys (val 18446744073709551616 zs * val 18446744073709551616 ys) ls err := fun ls err q => by simp only [Res2, hr, hr']; exact q
    have HR2 := (show Hid _ from res2)
    clear res2
    have htz := right_top hr
    have hty := right_top hr'
    have hdz := h.digs
    have hdy := h'.digs
    by_cases h0 : la = 0
    · have hz : Res (val 18446744073709551616 zs * val 18446744073709551616 ys) [] 0 := res_zero (by rw [List.eq_nil_of_length_eq_zero (hl.trans h0)]; simp [val])
      have HZ : Hid (Res (val 18446744073709551616 zs * val 18446744073709551616 ys) [] 0) := hz
      clear hz
      subst h0
      go_enter Try.func44, Try.ntmps44
      go_wp2_with fail
      refine (right_any _ _ _ _ _ h).mono ?_
      rintro e w' ⟨rfl, rfl⟩
      rw [hr]
      go_wp2_with fail
      refine (right_any _ _ _ _ _ h').mono ?_
      rintro e w' ⟨rfl, rfl⟩
      rw [hr']
      go_wp2_with fail
      go_ret2
      exact ⟨none, 0, 0, [], 0, rfl, Nums.nil _, HR2.out _ _ HZ.out, fun hp => absurd hp (Nat.lt_irrefl _), Below.refl _ _⟩
    have ha0 : ((la : Int) == 0) = false := by simp; omega
    by_cases h0' : lb = 0
    · have hz : Res (val 18446744073709551616 zs * val 18446744073709551616 ys) [] 0 := res_zero (by rw [List.eq_nil_of_length_eq_zero (hl'.trans h0')]; simp [val])
      have HZ : Hid (Res (val 18446744073709551616 zs * val 18446744073709551616 ys) [] 0) := hz
      clear hz
      subst h0'
      go_enter Try.func44, Try.ntmps44
      go_wp2_with fail
      refine (right_any _ _ _ _ _ h).mono ?_
      rintro e w' ⟨rfl, rfl⟩
      rw [hr]
      go_wp2_with fail
      refine (right_any _ _ _ _ _ h').mono ?_
      rintro e w' ⟨rfl, rfl⟩
      rw [hr']
      go_wp2_with fail
      go_ret2
      exact ⟨none, 0, 0, [], 0, rfl, Nums.nil _, HR2.out _ _ HZ.out, fun hp => absurd hp (Nat.lt_irrefl _), Below.refl _ _⟩
    have hb0 : ((lb : Int) == 0) = false := by simp; omega
    by_cases hlong : 64 < la + lb - 1
    · have hz := mul_long hdz hdy htz hty (by omega) (by omega) (by omega)
      have HZ : Hid (Res (val 18446744073709551616 zs * val 18446744073709551616 ys) [] 4) := hz
      clear hz
      have hli : (64 : Int) < (la : Int) + (lb : Int) - 1 := by omega
      go_enter Try.func44, Try.ntmps44
      go_wp2_with fail
      refine (right_any _ _ _ _ _ h).mono ?_
      rintro e w' ⟨rfl, rfl⟩
      rw [hr]
      go_wp2_with fail
      refine (right_any _ _ _ _ _ h').mono ?_
      rintro e w' ⟨rfl, rfl⟩
      rw [hr']
      go_wp2_with fail
      go_ret2
      exact ⟨none, 0, 0, [], 4, rfl, Nums.nil _, HR2.out _ _ HZ.out, fun hp => absurd hp (Nat.lt_irrefl _), Below.refl _ _⟩
    · have hli : ¬ (64 : Int) < (la : Int) + (lb : Int) - 1 := by omega
      go_enter Try.func44, Try.ntmps44
      go_wp2_with fail
      refine (right_any _ _ _ _ _ h).mono ?_
      rintro e w' ⟨rfl, rfl⟩
      rw [hr]
      go_wp2_with fail
      refine (right_any _ _ _ _ _ h').mono ?_
      rintro e w0 ⟨rfl, rfl⟩
      rw [hr']
      go_wp2_with fail
      refine (product_any _ _ _ _ _ _ _ _ _ h h' hla hlb).mono ?_
      rintro e w1 ⟨L, g, n, rfl, hLl, hn, hg, hblk, hLd, hv, hb⟩
      have hn' : n ≤ 1000000 := by omega
      have hnum := hblk.nums hLd hLl hn'
      have HV : Hid (val 18446744073709551616 L = val 18446744073709551616 zs * val 18446744073709551616 ys ∧ L.length = n) := ⟨hv, hLl⟩
      clear hv hLl hn
      go_wp2_with fail
      refine (fitted_any _ _ _ _ _ hnum).mono ?_
      rintro e w2 ⟨a', k, cap', ls, err, rfl, hn2, hres, ha, hkl, rfl⟩
      rw [HV.out.1] at hres
      have HR : Hid (Res (val 18446744073709551616 zs * val 18446744073709551616 ys) ls err) := hres
      clear hres
      go_wp2_with fail
      go_ret2
      exact ⟨_, _, _, _, _, rfl, hn2, HR2.out _ _ HR.out, fun hp => ⟨_, L, ha hp, hg, hblk, by have := HV.out.2; omega⟩, hb⟩
end Go.Proofs.Ytaipkganijofjab
