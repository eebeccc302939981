/-
  Euclid's steps: common divisors, the factors that go with the rests, inverses by a modulus.
  Contracts of modint's euclid, and of the closure that it tells.
  What stands in memory while modint.divisorOf goes Euclid's steps; one step.
-/
import Derived.Test.YtchmlfjjgehbkaaModA
namespace Go.Proofs.Ytchmlfjjgehbkaa
open Go.RowKit

/-- The greatest common divisor. -/
def gz (a b : Int) : Int := ((Nat.gcd a.toNat b.toNat : Nat) : Int)

theorem gz_zero {a : Int} (h : 0 ≤ a) : gz a 0 = a := by
  unfold gz; simp; omega

theorem toNat_emod' {a b : Int} (ha : 0 ≤ a) (hb : 0 ≤ b) : (a % b).toNat = a.toNat % b.toNat := by
  obtain ⟨x, rfl⟩ := Int.eq_ofNat_of_zero_le ha
  obtain ⟨y, rfl⟩ := Int.eq_ofNat_of_zero_le hb
  rfl

theorem gz_step {a b : Int} (ha : 0 ≤ a) (hb : 0 ≤ b) : gz b (a % b) = gz a b := by
  unfold gz
  rw [toNat_emod' ha hb, Nat.gcd_comm a.toNat, Nat.gcd_rec b.toNat a.toNat, Nat.gcd_comm]

theorem gz_mod {a n : Int} (ha : 0 ≤ a) (hn : 0 ≤ n) : gz n (a % n) = gz n a := by
  rw [gz_step ha hn]
  unfold gz
  rw [Nat.gcd_comm]

/-- X and Y are a times s and t, but for some n; and the factors stay small. -/
structure Bez (n a X Y s t : Int) : Prop where
  first : (a * s - X) % n = 0
  second : (a * t - Y) % n = 0
  size : X * sz t + Y * sz s = n
  signs : (s ≤ 0 ∧ 0 ≤ t) ∨ (t ≤ 0 ∧ 0 ≤ s)

theorem Bez.start (n a Y : Int) (h : (a - Y) % n = 0) : Bez n a n Y 0 1 := by
  refine ⟨?_, by rw [Int.mul_one]; exact h, ?_, .inl ⟨Int.le_refl _, by decide⟩⟩
  · simp
  · simp [sz]

theorem sz_nonneg (x : Int) : 0 ≤ sz x := by unfold sz; split <;> omega

theorem sz_opp {s t q : Int} (hq : 0 ≤ q) (h : (s ≤ 0 ∧ 0 ≤ t) ∨ (t ≤ 0 ∧ 0 ≤ s)) : sz (s - q * t) = sz s + q * sz t ∧ ((t ≤ 0 ∧ 0 ≤ s - q * t) ∨ (s - q * t ≤ 0 ∧ 0 ≤ t)) := by
  rcases h with ⟨h1, h2⟩ | ⟨h1, h2⟩
  · have hp := Int.mul_nonneg hq h2
    have et : sz t = t := by unfold sz; split <;> omega
    have es : sz s = -s := by unfold sz; split <;> omega
    have e : sz (s - q * t) = -(s - q * t) := by unfold sz; split <;> omega
    rw [e, et, es]
    exact ⟨by omega, .inr ⟨by omega, h2⟩⟩
  · have hp := Int.mul_nonneg hq (show 0 ≤ -t by omega)
    rw [Int.mul_neg] at hp
    have et : sz t = -t := by unfold sz; split <;> omega
    have es : sz s = s := by unfold sz; split <;> omega
    have e : sz (s - q * t) = s - q * t := by unfold sz; split <;> omega
    rw [e, et, es, Int.mul_neg]
    exact ⟨by omega, .inl ⟨h1, by omega⟩⟩

theorem Bez.step {n a X Y s t : Int} (h : Bez n a X Y s t) (hX : 0 ≤ X) (hY : 0 < Y) : Bez n a Y (X % Y) t (s - X / Y * t) ∧ sz (X / Y * t) ≤ n ∧ sz (s - X / Y * t) ≤ n := by
  obtain ⟨h1, h2, h3, h4⟩ := h
  have hq : 0 ≤ X / Y := Int.ediv_nonneg hX (by omega)
  have hr := Int.emod_nonneg X (show Y ≠ 0 by omega)
  have hm := Int.mul_ediv_add_emod X Y
  obtain ⟨o1, o2⟩ := sz_opp hq h4
  have ns := sz_nonneg s
  have nt := sz_nonneg t
  have hqt : sz (X / Y * t) = X / Y * sz t := by
    have := (sz_opp (s := 0) (t := t) hq (by omega)).1
    have e0 : sz 0 = 0 := rfl
    rw [e0, Int.zero_add, Int.zero_sub] at this
    rw [← this]
    unfold sz
    split <;> split <;> omega
  generalize hQ : X / Y = q at *
  generalize hR : X % Y = r at *
  have size : Y * sz (s - q * t) + r * sz t = n := by
    rw [o1, Int.mul_add, ← Int.mul_assoc, Int.add_assoc, ← Int.add_mul, hm, Int.add_comm, h3]
  have hrt := Int.mul_nonneg hr nt
  have hYs : sz (s - q * t) * 1 ≤ sz (s - q * t) * Y := Int.mul_le_mul_of_nonneg_left (by omega) (sz_nonneg _)
  rw [Int.mul_comm _ Y, Int.mul_one] at hYs
  have hle : sz (s - q * t) ≤ n := by omega
  have hqn := Int.mul_nonneg hq nt
  refine ⟨⟨h2, ?_, size, ?_⟩, by omega, hle⟩
  · have e : a * (s - q * t) - r = (a * s - X) - q * (a * t - Y) := by
      rw [← hm, Int.mul_sub, Int.mul_sub, ← Int.mul_assoc, Int.mul_comm a q, Int.mul_assoc, Int.mul_comm Y q]
      omega
    rw [e]
    exact Int.emod_eq_zero_of_dvd (Int.dvd_sub (Int.dvd_of_emod_eq_zero h1) (Int.dvd_trans (Int.dvd_of_emod_eq_zero h2) (Int.dvd_mul_left _ _)))
  · rcases o2 with o2 | o2
    · exact .inl o2
    · exact .inr o2

/-- One number times an inverse leaves 1: there is one inverse. -/
theorem inv_unique {a n x y : Int} (hx : 0 ≤ x ∧ x < n) (hy : 0 ≤ y ∧ y < n) (h1 : a * x % n = 1) (h2 : a * y % n = 1) : x = y := by
  have e1 : x * (a * y) % n = x % n := by rw [Int.mul_emod, h2, Int.mul_one, Int.emod_emod]
  have e2 : y * (a * x) % n = y % n := by rw [Int.mul_emod, h1, Int.mul_one, Int.emod_emod]
  have e3 : x * (a * y) = y * (a * x) := by rw [← Int.mul_assoc, ← Int.mul_assoc, Int.mul_comm x a, Int.mul_comm y a, Int.mul_assoc, Int.mul_assoc, Int.mul_comm x y]
  rw [e3, e2] at e1
  rw [Int.emod_eq_of_lt hx.1 hx.2, Int.emod_eq_of_lt hy.1 hy.2] at e1
  exact e1.symm

/-- What is told of an inverse. -/
def ResInv (zs ns : List Int) (ls : List Int) (err : Int) : Prop :=
  if rightB zs && (rightB ns && decide (2 ≤ val 18446744073709551616 ns)) then
    (if gz (val 18446744073709551616 ns) (val 18446744073709551616 zs) = 1 then err = 0 ∧ Digs 18446744073709551616 ls ∧ rightB ls = true ∧ val 18446744073709551616 ls < val 18446744073709551616 ns ∧ val 18446744073709551616 zs * val 18446744073709551616 ls % val 18446744073709551616 ns = 1 else err = 6 ∧ ls = [])
  else err = 1 ∧ ls = []

theorem ResInv.unique {zs ns ls ks : List Int} {e f : Int} (h : ResInv zs ns ls e) (h' : ResInv zs ns ks f) : ls = ks ∧ e = f := by
  unfold ResInv at h h'
  split at h
  · rename_i hc
    rw [if_pos hc] at h'
    split at h
    · rename_i hc2
      rw [if_pos hc2] at h'
      obtain ⟨rfl, d1, r1, l1, v1⟩ := h
      obtain ⟨rfl, d2, r2, l2, v2⟩ := h'
      have := inv_unique ⟨val_nonneg (by decide) d1, l1⟩ ⟨val_nonneg (by decide) d2, l2⟩ v1 v2
      exact ⟨val_inj (by decide) d1 d2 (right_top r1) (right_top r2) this, rfl⟩
    · rename_i hc2
      rw [if_neg hc2] at h'
      obtain ⟨rfl, rfl⟩ := h
      obtain ⟨rfl, rfl⟩ := h'
      exact ⟨rfl, rfl⟩
  · rename_i hc
    rw [if_neg hc] at h'
    obtain ⟨rfl, rfl⟩ := h
    obtain ⟨rfl, rfl⟩ := h'
    exact ⟨rfl, rfl⟩

/-- What is told of a greatest common divisor. -/
def ResGcd (zs ys : List Int) (ls : List Int) (err : Int) : Prop :=
  if rightB zs && rightB ys then err = 0 ∧ Digs 18446744073709551616 ls ∧ rightB ls = true ∧ val 18446744073709551616 ls = gz (val 18446744073709551616 zs) (val 18446744073709551616 ys) else err = 1 ∧ ls = []

theorem ResGcd.unique {zs ys ls ks : List Int} {e f : Int} (h : ResGcd zs ys ls e) (h' : ResGcd zs ys ks f) : ls = ks ∧ e = f := by
  unfold ResGcd at h h'
  split at h
  · rename_i hc
    rw [if_pos hc] at h'
    obtain ⟨rfl, d1, r1, v1⟩ := h
    obtain ⟨rfl, d2, r2, v2⟩ := h'
    exact ⟨val_inj (by decide) d1 d2 (right_top r1) (right_top r2) (v1.trans v2.symm), rfl⟩
  · rename_i hc
    rw [if_neg hc] at h'
    obtain ⟨rfl, rfl⟩ := h
    obtain ⟨rfl, rfl⟩ := h'
    exact ⟨rfl, rfl⟩
end Go.Proofs.Ytchmlfjjgehbkaa

namespace Go.Proofs.Ytchmlfjjgehbkaa
open Go.RowKit

/-- The two variables of Euclid's steps in memory. -/
structure EucAt (w : World) (ga gb : Nat) (xa : Option Addr) (xn xc : Nat) (ya : Option Addr) (yn yc : Nat) : Prop where
  ne : ga ≠ gb
  a : w.cell? ⟨ga, 0, none⟩ = some (.slice xa xn xc)
  b : w.cell? ⟨gb, 0, none⟩ = some (.slice ya yn yc)
  fa : w.frozen? ⟨ga, 0, none⟩ = false
  fb : w.frozen? ⟨gb, 0, none⟩ = false

theorem EucAt.below {w w' : World} {ga gb : Nat} {xa : Option Addr} {xn xc : Nat} {ya : Option Addr} {yn yc : Nat} (h : EucAt w ga gb xa xn xc ya yn yc) (hb : Below w.heap.size w w') : EucAt w' ga gb xa xn xc ya yn yc :=
  ⟨h.ne, bkeep hb h.a rfl, bkeep hb h.b rfl, (hb.frozen (p := ⟨ga, 0, none⟩) (World.block_lt_of_cell? _ _ h.a)).trans h.fa, (hb.frozen (p := ⟨gb, 0, none⟩) (World.block_lt_of_cell? _ _ h.b)).trans h.fb⟩

/-- What a step leaves alone: all words, and all cells but the two. -/
structure StepKept (w w' : World) (ga gb : Nat) : Prop where
  nums : ∀ a n c L, Nums w a n c L → Nums w' a n c L
  cell : ∀ b o v, b ≠ ga → b ≠ gb → w.cell? ⟨b, o, none⟩ = some v → w'.cell? ⟨b, o, none⟩ = some v
  frozen : ∀ b o v, b ≠ ga → b ≠ gb → w.cell? ⟨b, o, none⟩ = some v → w'.frozen? ⟨b, o, none⟩ = w.frozen? ⟨b, o, none⟩

set_option maxHeartbeats 400000 in
theorem euclid_any (a b : Option Addr) (la ca lb cb : Nat) (w : World) :
    Calls Try.prog 91 #[.slice a la ca, .slice b lb cb] w fun e w' => ∃ ga gb, e = .returned (.func (.func 102) #[] #[.pointer (some ⟨gb, 0, none⟩), .pointer (some ⟨ga, 0, none⟩)]) ∧ (w.heap.size ≤ ga ∧ w.heap.size ≤ gb) ∧ EucAt w' ga gb a la ca b lb cb ∧ Below w.heap.size w w' := by
  have hB := ((Below.refl w.heap.size w).alloc (Nat.le_refl _) (.cells #[.slice a la ca] 26)).alloc (by simp) (.cells #[.slice b lb cb] 26)
  have hmf : ∀ (fn : Fn) (first cap : Array Value) (w : World), (Instr.makeFunc fn first cap).run Try.prog w = .ok (.func fn first cap) w := fun _ _ _ _ => rfl
  go_enter Try.func91, Try.ntmps91
  go_wp2_with fail
  go_ret
  refine ⟨w.heap.size, w.heap.size + 1, rfl, ⟨Nat.le_refl _, by omega⟩, ⟨by omega, ?_, ?_, ?_, ?_⟩, hB⟩
  · simp
  · simp
  · simp
  · simp

theorem kept_put {w : World} {ga gb : Nat} {xa : Option Addr} {xn xc : Nat} {ya : Option Addr} {yn yc : Nat} (h : EucAt w ga gb xa xn xc ya yn yc) (ra : Option Addr) (rn rc : Nat) :
    EucAt ((w.setCell ⟨ga, 0, none⟩ (.slice ya yn yc)).setCell ⟨gb, 0, none⟩ (.slice ra rn rc)) ga gb ya yn yc ra rn rc ∧ StepKept w ((w.setCell ⟨ga, 0, none⟩ (.slice ya yn yc)).setCell ⟨gb, 0, none⟩ (.slice ra rn rc)) ga gb := by
  have hne := h.ne
  have n1 : (⟨ga, 0, none⟩ : Addr) ≠ ⟨gb, 0, none⟩ := by intro e; cases e; exact hne rfl
  have n2 : (⟨gb, 0, none⟩ : Addr) ≠ ⟨ga, 0, none⟩ := fun e => n1 e.symm
  have hb2 : (w.setCell ⟨ga, 0, none⟩ (.slice ya yn yc)).cell? ⟨gb, 0, none⟩ = some (.slice ya yn yc) := (World.cell?_setCell_other _ _ _ _ n1).trans h.b
  refine ⟨⟨hne, ?_, World.cell?_setCell_same _ _ _ hb2, by simp [h.fa], by simp [h.fb]⟩, ⟨?_, ?_, ?_⟩⟩
  · exact (World.cell?_setCell_other _ _ _ _ n2).trans (World.cell?_setCell_same _ _ _ h.a)
  · intro a n c L hn
    exact (hn.put h.a (fun z => by simp) _).put hb2 (fun z => by simp) _
  · intro b o v h1 h2 hc
    rw [World.cell?_setCell_other, World.cell?_setCell_other]
    · exact hc
    · intro e; cases e; exact h1 rfl
    · intro e; cases e; exact h2 rfl
  · intro b o v h1 h2 hc
    simp

set_option maxHeartbeats 1000000 in
theorem step_any (ga gb : Nat) (xa : Option Addr) (xn xc : Nat) (xs : List Int) (ya : Option Addr) (yn yc : Nat) (ys : List Int) (w : World) (B : Nat) (E : EucAt w ga gb xa xn xc ya yn yc) (hx : Nums w xa xn xc xs) (hy : Nums w ya yn yc ys) (rx : rightB xs = true) (ry : rightB ys = true) (hBa : B ≤ ga) (hBb : B ≤ gb) :
    Calls Try.prog 102 #[.pointer (some ⟨gb, 0, none⟩), .pointer (some ⟨ga, 0, none⟩)] w fun e w' =>
      (yn = 0 ∧ e = .returned (.tuple #[.slice xa xn xc, .bool false]) ∧ w' = w) ∨
      (yn ≠ 0 ∧ ∃ qa qn qc qs ra rn rc rs, e = .returned (.tuple #[.slice qa qn qc, .bool true]) ∧ EucAt w' ga gb ya yn yc ra rn rc ∧ Nums w' qa qn qc qs ∧ Nums w' ra rn rc rs ∧ ((rightB qs = true ∧ rightB rs = true) ∧ val 18446744073709551616 qs = val 18446744073709551616 xs / val 18446744073709551616 ys ∧ val 18446744073709551616 rs = val 18446744073709551616 xs % val 18446744073709551616 ys) ∧ StepKept w w' ga gb ∧ Below B w w') := by
  have hm := hy.hmax
  have hcp := hy.hcap
  have hl := hy.hlen
  unfold maxLen at hm
  have HE : Hid (EucAt w ga gb xa xn xc ya yn yc) := E
  obtain ⟨hne, c0, c1, f0, f1⟩ := E
  by_cases h0 : yn = 0
  · subst h0
    clear hl
    go_enter Try.func102, Try.ntmps102
    go_wp2_with fail
    go_ret2
    exact .inl ⟨trivial, rfl, rfl⟩
  · have hne0 : ((yn : Int) == 0) = false := by simp; omega
    have hy0 : ys.length ≠ 0 := by omega
    have HY : Hid (ys.length ≠ 0) := hy0
    clear hl hy0
    go_enter Try.func102, Try.ntmps102
    go_wp2_with fail
    refine (div_any _ _ _ _ _ _ _ _ _ hx hy).mono ?_
    rintro e w1 ⟨qa, qn, qc, qs, ra, rn, rc, rs, err, rfl, hQ, hR, hD, -, -, -, hb⟩
    obtain ⟨rfl, hr, -, hv⟩ := ResDiv.parts rx ry HY.out hD
    have E1 := HE.out.below hb
    obtain ⟨P1, P2⟩ := kept_put E1 ra rn rc
    have hbs : B ≤ w.heap.size := by have := World.block_lt_of_cell? _ _ c0; simp at this; omega
    have hB1 := ((hb.mono hbs).setCell (p := ⟨ga, 0, none⟩) hBa (.slice ya yn yc)).setCell (p := ⟨gb, 0, none⟩) hBb (.slice ra rn rc)
    have hsk : StepKept w ((w1.setCell ⟨ga, 0, none⟩ (.slice ya yn yc)).setCell ⟨gb, 0, none⟩ (.slice ra rn rc)) ga gb :=
      ⟨fun a n c L hn => P2.nums a n c L (hn.below hb), fun b o v h1 h2 hc => P2.cell b o v h1 h2 (bkeep hb hc rfl), fun b o v h1 h2 hc => (P2.frozen b o v h1 h2 (bkeep hb hc rfl)).trans (hb.frozen (p := ⟨b, o, none⟩) (World.block_lt_of_cell? _ _ hc))⟩
    have HF := (show Hid _ from And.intro P1 (And.intro (P2.nums _ _ _ _ hQ) (And.intro (P2.nums _ _ _ _ hR) (And.intro (And.intro hr hv) (And.intro hsk hB1)))))
    obtain ⟨-, k0, k1, l0, l1⟩ := E1
    clear P1 P2 hsk hB1 hQ hR hr hv hD c0 c1 f0 f1 hb HE hx hy
    have hne' : gb ≠ ga := fun e => hne e.symm
    go_wp2_with fail
    go_ret2
    exact .inr ⟨h0, _, _, _, _, _, _, _, _, rfl, HF.out⟩
end Go.Proofs.Ytchmlfjjgehbkaa

namespace Go.Proofs.Ytchmlfjjgehbkaa
open Go.RowKit

/-- A variable in block g holds the whole number v. -/
def Fac (w : World) (g : Nat) (v : Int) : Prop :=
  ∃ p a n c L, (w.cell? ⟨g, 0, none⟩ = some (.bool p) ∧ w.cell? ⟨g, 1, none⟩ = some (.slice a n c)) ∧ (w.frozen? ⟨g, 0, none⟩ = false ∧ w.frozen? ⟨g, 1, none⟩ = false) ∧ Nums w a n c L ∧ rightI p L = true ∧ iv p L = v

theorem Fac.below {w w' : World} {g : Nat} {v : Int} (h : Fac w g v) (hb : Below w.heap.size w w') : Fac w' g v := by
  obtain ⟨p, a, n, c, L, ⟨c0, c1⟩, ⟨f0, f1⟩, hn, hr, hv⟩ := h
  exact ⟨p, a, n, c, L, ⟨bkeep hb c0 rfl, bkeep hb c1 rfl⟩, ⟨(hb.frozen (p := ⟨g, 0, none⟩) (World.block_lt_of_cell? _ _ c0)).trans f0, (hb.frozen (p := ⟨g, 1, none⟩) (World.block_lt_of_cell? _ _ c1)).trans f1⟩, hn.below hb, hr, hv⟩

theorem Fac.step {w w' : World} {g ga gb : Nat} {v : Int} (h : Fac w g v) (hs : StepKept w w' ga gb) (h1 : g ≠ ga) (h2 : g ≠ gb) : Fac w' g v := by
  obtain ⟨p, a, n, c, L, ⟨c0, c1⟩, ⟨f0, f1⟩, hn, hr, hv⟩ := h
  exact ⟨p, a, n, c, L, ⟨hs.cell _ _ _ h1 h2 c0, hs.cell _ _ _ h1 h2 c1⟩, ⟨(hs.frozen _ _ _ h1 h2 c0).trans f0, (hs.frozen _ _ _ h1 h2 c1).trans f1⟩, hs.nums _ _ _ _ hn, hr, hv⟩

/-- Ahead of a step: two numbers, and their factors. -/
def DPre (w : World) (ga gb g6 g7 : Nat) (n a G : Int) (k : Nat) : Prop :=
  ∃ xa xn xc xs ya yn yc ys s t, EucAt w ga gb xa xn xc ya yn yc ∧ (Nums w xa xn xc xs ∧ Nums w ya yn yc ys) ∧ (rightB xs = true ∧ rightB ys = true) ∧ (Fac w g6 s ∧ Fac w g7 t) ∧
    Bez n a (val 18446744073709551616 xs) (val 18446744073709551616 ys) s t ∧ gz (val 18446744073709551616 xs) (val 18446744073709551616 ys) = G ∧ (val 18446744073709551616 ys).toNat = k

/-- Behind a step that goes on: its quotient is told. -/
def DOn (w : World) (ga gb g6 g7 : Nat) (n a G : Int) (k : Nat) (ta : Option Addr) (tn tc : Nat) : Prop :=
  ∃ xa xn xc xs ya yn yc ys qs s t, EucAt w ga gb xa xn xc ya yn yc ∧ (Nums w xa xn xc xs ∧ Nums w ya yn yc ys ∧ Nums w ta tn tc qs) ∧ (rightB xs = true ∧ rightB ys = true ∧ rightB qs = true) ∧ (Fac w g6 s ∧ Fac w g7 t) ∧
    (0 < val 18446744073709551616 xs ∧ val 18446744073709551616 ys < val 18446744073709551616 xs) ∧ Bez n a (val 18446744073709551616 qs * val 18446744073709551616 xs + val 18446744073709551616 ys) (val 18446744073709551616 xs) s t ∧
    gz (val 18446744073709551616 xs) (val 18446744073709551616 ys) = G ∧ (val 18446744073709551616 ys).toNat = k

/-- Behind the last one: the divisor is told. -/
def DEnd (w : World) (g6 : Nat) (n a G : Int) (ta : Option Addr) (tn tc : Nat) : Prop :=
  ∃ L s, Nums w ta tn tc L ∧ rightB L = true ∧ val 18446744073709551616 L = G ∧ Fac w g6 s ∧ (a * s - G) % n = 0

theorem dstep_any (ga gb g6 g7 : Nat) (n a G : Int) (k : Nat) (w : World) (B : Nat) (h : DPre w ga gb g6 g7 n a G k) (hBa : B ≤ ga) (hBb : B ≤ gb) (h6 : g6 ≠ ga ∧ g6 ≠ gb) (h7 : g7 ≠ ga ∧ g7 ≠ gb) :
    Calls Try.prog 102 #[.pointer (some ⟨gb, 0, none⟩), .pointer (some ⟨ga, 0, none⟩)] w fun e w' => ∃ ta tn tc m, e = .returned (.tuple #[.slice ta tn tc, .bool m]) ∧
      (m = false → DEnd w' g6 n a G ta tn tc) ∧ (m = true → ∃ k', k' < k ∧ DOn w' ga gb g6 g7 n a G k' ta tn tc) ∧
      (∀ b o v, b ≠ ga → b ≠ gb → w.cell? ⟨b, o, none⟩ = some v → w'.cell? ⟨b, o, none⟩ = some v ∧ w'.frozen? ⟨b, o, none⟩ = w.frozen? ⟨b, o, none⟩) ∧ Below B w w' := by
  obtain ⟨xa, xn, xc, xs, ya, yn, yc, ys, s, t, E, ⟨hx, hy⟩, ⟨rx, ry⟩, ⟨f6, f7⟩, hbz, hG, hk⟩ := h
  have nx := val_nonneg (B := 18446744073709551616) (by decide) hx.digs
  have ny := val_nonneg (B := 18446744073709551616) (by decide) hy.digs
  refine (step_any ga gb xa xn xc xs ya yn yc ys w B E hx hy rx ry hBa hBb).mono ?_
  rintro e w' (⟨h0, rfl, rfl⟩ | ⟨h0, qa, qn, qc, qs, ra, rn, rc, rs, rfl, E', hq, hr, ⟨⟨rq, rr⟩, vq, vr⟩, hs, hb⟩)
  · have e : ys = [] := List.eq_nil_of_length_eq_zero (by have := hy.hlen; omega)
    subst e
    rw [val_nil, gz_zero nx] at hG
    refine ⟨xa, xn, xc, false, rfl, fun _ => ⟨xs, s, hx, rx, hG, f6, by rw [← hG]; exact hbz.first⟩, (fun h => by cases h), fun b o v _ _ hc => ⟨hc, rfl⟩, Below.refl _ _⟩
  · have hp := right_pos hy.digs ry (by have := hy.hlen; omega)
    have hlt := Int.emod_lt_of_pos (val 18446744073709551616 xs) hp
    have hnn := Int.emod_nonneg (val 18446744073709551616 xs) (show val 18446744073709551616 ys ≠ 0 by omega)
    have hm := Int.mul_ediv_add_emod (val 18446744073709551616 xs) (val 18446744073709551616 ys)
    refine ⟨qa, qn, qc, true, rfl, (fun h => by cases h), fun _ => ⟨(val 18446744073709551616 rs).toNat, by rw [vr, ← hk]; omega, ya, yn, yc, ys, ra, rn, rc, rs, qs, s, t, E', ⟨hs.nums _ _ _ _ hy, hr, hq⟩, ⟨ry, rr, rq⟩, ⟨f6.step hs h6.1 h6.2, f7.step hs h7.1 h7.2⟩, ⟨hp, by rw [vr]; exact hlt⟩, ?_, ?_, rfl⟩, fun b o v h1 h2 hc => ⟨hs.cell _ _ _ h1 h2 hc, hs.frozen _ _ _ h1 h2 hc⟩, hb⟩
    · rw [vq, vr, Int.mul_comm, hm]; exact hbz
    · rw [vr, gz_step nx ny, hG]

/-- One round: the factors of the next pair. -/
theorem don_math {n a : Int} {q x y s t : Int} (hq : 0 ≤ q) (hx : 0 < x) (hy : 0 ≤ y ∧ y < x) (h : Bez n a (q * x + y) x s t) : Bez n a x y t (s - q * t) ∧ sz (q * t) ≤ n ∧ sz (s - q * t) ≤ n := by
  have e1 : (q * x + y) / x = q := by rw [Int.add_comm, Int.add_mul_ediv_right _ _ (by omega), Int.ediv_eq_zero_of_lt hy.1 hy.2, Int.zero_add]
  have e2 : (q * x + y) % x = y := by rw [Int.add_comm, Int.add_mul_emod_self_right, Int.emod_eq_of_lt hy.1 hy.2]
  have := h.step (Int.add_nonneg (Int.mul_nonneg hq (by omega)) hy.1) hx
  rw [e1, e2] at this
  exact this

theorem ResW.fits {v n : Int} {p : Bool} {ls : List Int} {e : Int} (h : ResW v p ls e) (hv : sz v ≤ n) (hn : n < 18446744073709551616 ^ 64) : e = 0 ∧ iv p ls = v ∧ rightI p ls = true := by
  obtain ⟨rfl, -⟩ := res_fits h.1 (by omega)
  obtain ⟨h1, h2, -⟩ := h.got
  exact ⟨rfl, h1, h2⟩
end Go.Proofs.Ytchmlfjjgehbkaa
