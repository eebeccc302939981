/-
  Contracts of fitted and nat.Add.
-/
import Derived.Test.YtaipkganijofjabSum
namespace Go.Proofs.Ytaipkganijofjab
open Go.RowKit

/-- What is told of the value v: its limbs, or the error 4 where they are more than 64. -/
def Res (v : Int) (ls : List Int) (err : Int) : Prop :=
  (err = 0 ∧ Digs 18446744073709551616 ls ∧ Top ls ∧ ls.length ≤ 64 ∧ val 18446744073709551616 ls = v) ∨
  (err = 4 ∧ ls = [] ∧ ∃ zs, Digs 18446744073709551616 zs ∧ Top zs ∧ val 18446744073709551616 zs = v ∧ 64 < zs.length)

theorem Res.unique {v : Int} {ls ks : List Int} {e f : Int} (h : Res v ls e) (h' : Res v ks f) : ls = ks ∧ e = f := by
  have hB : (0 : Int) < 18446744073709551616 := by decide
  rcases h with ⟨rfl, hd, ht, hl, hv⟩ | ⟨rfl, rfl, zs, hd, ht, hv, hl⟩ <;> rcases h' with ⟨rfl, hd', ht', hl', hv'⟩ | ⟨rfl, rfl, zs', hd', ht', hv', hl'⟩
  · exact ⟨val_inj hB hd hd' ht ht' (hv.trans hv'.symm), rfl⟩
  · have := val_inj hB hd hd' ht ht' (hv.trans hv'.symm); subst this; omega
  · have := val_inj hB hd hd' ht ht' (hv.trans hv'.symm); subst this; omega
  · exact ⟨rfl, rfl⟩

/-- The slice lies at the head of a block that was made since the world w0. -/
def Fresh (w0 w : World) (a : Option Addr) (n : Nat) : Prop := 0 < n → ∃ g L, a = some ⟨g, 0, none⟩ ∧ w0.heap.size ≤ g ∧ Blk w g L ∧ n ≤ L.length

theorem Blk.nums {w : World} {g n : Nat} {L : List Int} (h : Blk w g L) (hd : Digs 18446744073709551616 L) (hl : L.length = n) (hn : n ≤ 1000000) : Nums w (some ⟨g, 0, none⟩) n n L := by
  subst hl
  refine ⟨rfl, Nat.le_refl _, by unfold maxLen; omega, fun _ => ⟨g, 0, rfl, fun i hi => ?_⟩, hd⟩
  rw [Nat.zero_add]; exact h.cell hi

set_option maxHeartbeats 400000 in
theorem fitted_any (a : Option Addr) (len cap : Nat) (zs : List Int) (w : World) (h : Nums w a len cap zs) :
    Calls Try.prog 74 #[.slice a len cap] w fun e w' => ∃ a' n cap' ls err, e = .returned (.tuple #[.slice a' n cap', .int .i64 err]) ∧ Nums w a' n cap' ls ∧ Res (val 18446744073709551616 zs) ls err ∧ (0 < n → a' = a) ∧ n ≤ len ∧ w' = w := by
  have hm := h.hmax
  have hcp := h.hcap
  have hd := h.digs
  go_enter Try.func74, Try.ntmps74
  go_wp2_with fail
  refine (trimmed_any _ _ _ _ _ h).mono ?_
  rintro e w' ⟨a', k, cap', rfl, htr, hk, rfl⟩
  have hkl : k ≤ len := by have := htr.le; have := h.hlen; omega
  have hn : Nums w' a' k cap' (zs.take k) := by
    rcases hk with ⟨rfl, rfl, rfl⟩ | ⟨_, rfl, rfl⟩
    · simpa using Nums.nil w'
    · exact h.take hkl
  have hlk : (zs.take k).length = k := hn.hlen
  have ha : 0 < k → a' = a := fun hp => by rcases hk with ⟨rfl, _, _⟩ | ⟨_, rfl, _⟩; exact absurd hp (Nat.lt_irrefl _); rfl
  clear hk
  unfold maxLen at hm
  by_cases h64 : k ≤ 64
  · have hdc : decide ((64 : Int) < (k : Int)) = false := by simp; omega
    have hres : Res (val 18446744073709551616 zs) (zs.take k) 0 := .inl ⟨rfl, hd.take k, htr.Top, by omega, htr.val⟩
    have HH := (show Hid _ from And.intro hres hn)
    clear hres hn hlk htr
    go_wp2_with fail
    go_ret2
    exact ⟨_, _, _, _, _, rfl, HH.out.2, HH.out.1, ha, hkl, rfl⟩
  · have hdc : (64 : Int) < (k : Int) := by omega
    have hres : Res (val 18446744073709551616 zs) [] 4 := .inr ⟨rfl, rfl, zs.take k, hd.take k, htr.Top, htr.val, by omega⟩
    have HH : Hid (Res (val 18446744073709551616 zs) [] 4) := hres
    clear hres hn hlk htr
    go_wp2_with fail
    go_ret2
    exact ⟨none, 0, 0, [], 4, rfl, Nums.nil _, HH.out, fun hp => absurd hp (Nat.lt_irrefl _), Nat.zero_le _, rfl⟩

/-- What is told of two numbers: the error 1 where one of them may not be. -/
def Res2 (zs ys : List Int) (v : Int) (ls : List Int) (err : Int) : Prop :=
  if rightB zs && rightB ys then Res v ls err else err = 1 ∧ ls = []

theorem Res2.unique {zs ys : List Int} {v : Int} {ls ks : List Int} {e f : Int} (h : Res2 zs ys v ls e) (h' : Res2 zs ys v ks f) : ls = ks ∧ e = f := by
  unfold Res2 at h h'
  split at h <;> simp_all
  exact h.unique h'

set_option maxHeartbeats 400000 in
theorem add_any (a b : Option Addr) (la ca lb cb : Nat) (zs ys : List Int) (w : World) (h : Nums w a la ca zs) (h' : Nums w b lb cb ys) :
    Calls Try.prog 45 #[.slice a la ca, .slice b lb cb] w fun e w' => ∃ a' n cap' ls err, e = .returned (.tuple #[.slice a' n cap', .int .i64 err]) ∧ Nums w' a' n cap' ls ∧
      Res2 zs ys (val 18446744073709551616 zs + val 18446744073709551616 ys) ls err ∧ Fresh w w' a' n ∧ Below w.heap.size w w' := by
  cases hr : rightB zs with
  | false =>
    go_enter Try.func45, Try.ntmps45
    go_wp2_with fail
    refine (right_any _ _ _ _ _ h).mono ?_
    rintro e w' ⟨rfl, rfl⟩
    go_wp2_with fail
    go_ret2
    exact ⟨none, 0, 0, [], 1, rfl, Nums.nil _, by simp [Res2, hr], fun hp => absurd hp (Nat.lt_irrefl _), Below.refl _ _⟩
  | true =>
  cases hr' : rightB ys with
  | false =>
    go_enter Try.func45, Try.ntmps45
    go_wp2_with fail
    refine (right_any _ _ _ _ _ h).mono ?_
    rintro e w' ⟨rfl, rfl⟩
    go_wp2_with fail
    refine (right_any _ _ _ _ _ h').mono ?_
    rintro e w' ⟨rfl, rfl⟩
    go_wp2_with fail
    go_ret2
    exact ⟨none, 0, 0, [], 1, rfl, Nums.nil _, by simp [Res2, hr'], fun hp => absurd hp (Nat.lt_irrefl _), Below.refl _ _⟩
  | true =>
    have hla : la ≤ 64 := by have := right_len hr; have := h.hlen; omega
    have hlb : lb ≤ 64 := by have := right_len hr'; have := h'.hlen; omega
    go_enter Try.func45, Try.ntmps45
    go_wp2_with fail
    refine (right_any _ _ _ _ _ h).mono ?_
    rintro e w' ⟨rfl, rfl⟩
    go_wp2_with fail
    refine (right_any _ _ _ _ _ h').mono ?_
    rintro e w0 ⟨rfl, rfl⟩
    go_wp2_with fail
    refine (plus_any _ _ _ _ _ _ _ _ _ h h' (by omega) (by omega)).mono ?_
    rintro e w1 ⟨L, n, rfl, hLl, hn, hblk, hLd, hv, hb⟩
    have hn' : n ≤ 1000000 := by have : Nat.max la lb ≤ 64 := Nat.max_le.2 ⟨hla, hlb⟩; omega
    have hnum := hblk.nums hLd hLl hn'
    have HV := (show Hid _ from And.intro hv hLl)
    clear hv hLl hn
    go_wp2_with fail
    refine (fitted_any _ _ _ _ _ hnum).mono ?_
    rintro e w2 ⟨a', k, cap', ls, err, rfl, hn2, hres, ha, hkl, rfl⟩
    rw [HV.out.1] at hres
    have HR : Hid (Res (val 18446744073709551616 zs + val 18446744073709551616 ys) ls err) := hres
    clear hres
    go_wp2_with fail
    go_ret2
    exact ⟨_, _, _, _, _, rfl, hn2, by simp only [Res2, hr, hr']; exact HR.out, fun hp => ⟨_, L, ha hp, Nat.le_refl _, hblk, by have := HV.out.2; omega⟩, hb⟩
end Go.Proofs.Ytaipkganijofjab
