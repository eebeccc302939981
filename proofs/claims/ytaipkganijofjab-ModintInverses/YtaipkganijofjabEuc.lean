/-
  Contracts of modint's euclid, and of the closure that it tells.
-/
import Derived.Test.YtaipkganijofjabEMath
namespace Go.Proofs.Ytaipkganijofjab
open Go.RowKit

/-- The two variables of Euclid's steps in memory. -/
structure EucAt (w : World) (ga gb : Nat) (xa : Option Addr) (xn xc : Nat) (ya : Option Addr) (yn yc : Nat) : Prop where
  ne : ga ≠ gb
  a : w.cell? ⟨ga, 0, none⟩ = some (.slice xa xn xc)
  b : w.cell? ⟨gb, 0, none⟩ = some (.slice ya yn yc)
  fa : w.frozen? ⟨ga, 0, none⟩ = false
  fb : w.frozen? ⟨gb, 0, none⟩ = false

theorem EucAt.below {w w' : World} {ga gb : Nat} {xa : Option Addr} {xn xc : Nat} {ya : Option Addr} {yn yc : Nat} (h : EucAt w ga gb xa xn xc ya yn yc) (hb : Below w.heap.size w w') : EucAt w' ga gb xa xn xc ya yn yc :=
  ⟨h.ne, bkeep hb h.a rfl, bkeep hb h.b rfl, (hb.frozen (p := ⟨ga, 0, none⟩) (World.block_lt_of_cell? _ _ h.a)).trans h.fa, (hb.frozen (p := ⟨gb, 0, none⟩) (World.block_lt_of_cell? _ _ h.b)).trans h.fb⟩

/-- What a step leaves alone: all words, and all cells but the two. -/
structure StepKept (w w' : World) (ga gb : Nat) : Prop where
  nums : ∀ a n c L, Nums w a n c L → Nums w' a n c L
  cell : ∀ b o v, b ≠ ga → b ≠ gb → w.cell? ⟨b, o, none⟩ = some v → w'.cell? ⟨b, o, none⟩ = some v
  frozen : ∀ b o v, b ≠ ga → b ≠ gb → w.cell? ⟨b, o, none⟩ = some v → w'.frozen? ⟨b, o, none⟩ = w.frozen? ⟨b, o, none⟩

set_option maxHeartbeats 400000 in
theorem euclid_any (a b : Option Addr) (la ca lb cb : Nat) (w : World) :
    Calls Try.prog 27 #[.slice a la ca, .slice b lb cb] w fun e w' => ∃ ga gb, e = .returned (.func (.func 59) #[] #[.pointer (some ⟨gb, 0, none⟩), .pointer (some ⟨ga, 0, none⟩)]) ∧ (w.heap.size ≤ ga ∧ w.heap.size ≤ gb) ∧ EucAt w' ga gb a la ca b lb cb ∧ Below w.heap.size w w' := by
  have hB := ((Below.refl w.heap.size w).alloc (Nat.le_refl _) (.cells #[.slice a la ca] 23)).alloc (by simp) (.cells #[.slice b lb cb] 23)
  have hmf : ∀ (fn : Fn) (first cap : Array Value) (w : World), (Instr.makeFunc fn first cap).run Try.prog w = .ok (.func fn first cap) w := fun _ _ _ _ => rfl
  go_enter Try.func27, Try.ntmps27
  go_wp2_with fail
  go_ret
  refine ⟨w.heap.size, w.heap.size + 1, rfl, ⟨Nat.le_refl _, by omega⟩, ⟨by omega, ?_, ?_, ?_, ?_⟩, hB⟩
  · simp
  · simp
  · simp
  · simp

theorem kept_put {w : World} {ga gb : Nat} {xa : Option Addr} {xn xc : Nat} {ya : Option Addr} {yn yc : Nat} (h : EucAt w ga gb xa xn xc ya yn yc) (ra : Option Addr) (rn rc : Nat) :
    EucAt ((w.setCell ⟨ga, 0, none⟩ (.slice ya yn yc)).setCell ⟨gb, 0, none⟩ (.slice ra rn rc)) ga gb ya yn yc ra rn rc ∧ StepKept w ((w.setCell ⟨ga, 0, none⟩ (.slice ya yn yc)).setCell ⟨gb, 0, none⟩ (.slice ra rn rc)) ga gb := by
  have hne := h.ne
  have n1 : (⟨ga, 0, none⟩ : Addr) ≠ ⟨gb, 0, none⟩ := by intro e; cases e; exact hne rfl
  have n2 : (⟨gb, 0, none⟩ : Addr) ≠ ⟨ga, 0, none⟩ := fun e => n1 e.symm
  have hb2 : (w.setCell ⟨ga, 0, none⟩ (.slice ya yn yc)).cell? ⟨gb, 0, none⟩ = some (.slice ya yn yc) := (World.cell?_setCell_other _ _ _ _ n1).trans h.b
  refine ⟨⟨hne, ?_, World.cell?_setCell_same _ _ _ hb2, by simp [h.fa], by simp [h.fb]⟩, ⟨?_, ?_, ?_⟩⟩
  · exact (World.cell?_setCell_other _ _ _ _ n2).trans (World.cell?_setCell_same _ _ _ h.a)
  · intro a n c L hn
    exact (hn.put h.a (fun z => by simp) _).put hb2 (fun z => by simp) _
  · intro b o v h1 h2 hc
    rw [World.cell?_setCell_other, World.cell?_setCell_other]
    · exact hc
    · intro e; cases e; exact h1 rfl
    · intro e; cases e; exact h2 rfl
  · intro b o v h1 h2 hc
    simp

set_option maxHeartbeats 1000000 in
theorem step_any (ga gb : Nat) (xa : Option Addr) (xn xc : Nat) (xs : List Int) (ya : Option Addr) (yn yc : Nat) (ys : List Int) (w : World) (B : Nat) (E : EucAt w ga gb xa xn xc ya yn yc) (hx : Nums w xa xn xc xs) (hy : Nums w ya yn yc ys) (rx : rightB xs = true) (ry : rightB ys = true) (hBa : B ≤ ga) (hBb : B ≤ gb) :
    Calls Try.prog 59 #[.pointer (some ⟨gb, 0, none⟩), .pointer (some ⟨ga, 0, none⟩)] w fun e w' =>
      (yn = 0 ∧ e = .returned (.tuple #[.slice xa xn xc, .bool false]) ∧ w' = w) ∨
      (yn ≠ 0 ∧ ∃ qa qn qc qs ra rn rc rs, e = .returned (.tuple #[.slice qa qn qc, .bool true]) ∧ EucAt w' ga gb ya yn yc ra rn rc ∧ Nums w' qa qn qc qs ∧ Nums w' ra rn rc rs ∧ ((rightB qs = true ∧ rightB rs = true) ∧ val 18446744073709551616 qs = val 18446744073709551616 xs / val 18446744073709551616 ys ∧ val 18446744073709551616 rs = val 18446744073709551616 xs % val 18446744073709551616 ys) ∧ StepKept w w' ga gb ∧ Below B w w') := by
  have hm := hy.hmax
  have hcp := hy.hcap
  have hl := hy.hlen
  unfold maxLen at hm
  have HE : Hid (EucAt w ga gb xa xn xc ya yn yc) := E
  obtain ⟨hne, c0, c1, f0, f1⟩ := E
  by_cases h0 : yn = 0
  · subst h0
    clear hl
    go_enter Try.func59, Try.ntmps59
    go_wp2_with fail
    go_ret2
    exact .inl ⟨trivial, rfl, rfl⟩
  · have hne0 : ((yn : Int) == 0) = false := by simp; omega
    have hy0 : ys.length ≠ 0 := by omega
    have HY : Hid (ys.length ≠ 0) := hy0
    clear hl hy0
    go_enter Try.func59, Try.ntmps59
    go_wp2_with fail
    refine (div_any _ _ _ _ _ _ _ _ _ hx hy).mono ?_
    rintro e w1 ⟨qa, qn, qc, qs, ra, rn, rc, rs, err, rfl, hQ, hR, hD, -, -, -, hb⟩
    obtain ⟨rfl, hr, -, hv⟩ := ResDiv.parts rx ry HY.out hD
    have E1 := HE.out.below hb
    obtain ⟨P1, P2⟩ := kept_put E1 ra rn rc
    have hbs : B ≤ w.heap.size := by have := World.block_lt_of_cell? _ _ c0; simp at this; omega
    have hB1 := ((hb.mono hbs).setCell (p := ⟨ga, 0, none⟩) hBa (.slice ya yn yc)).setCell (p := ⟨gb, 0, none⟩) hBb (.slice ra rn rc)
    have hsk : StepKept w ((w1.setCell ⟨ga, 0, none⟩ (.slice ya yn yc)).setCell ⟨gb, 0, none⟩ (.slice ra rn rc)) ga gb :=
      ⟨fun a n c L hn => P2.nums a n c L (hn.below hb), fun b o v h1 h2 hc => P2.cell b o v h1 h2 (bkeep hb hc rfl), fun b o v h1 h2 hc => (P2.frozen b o v h1 h2 (bkeep hb hc rfl)).trans (hb.frozen (p := ⟨b, o, none⟩) (World.block_lt_of_cell? _ _ hc))⟩
    have HF := (show Hid _ from And.intro P1 (And.intro (P2.nums _ _ _ _ hQ) (And.intro (P2.nums _ _ _ _ hR) (And.intro (And.intro hr hv) (And.intro hsk hB1)))))
    obtain ⟨-, k0, k1, l0, l1⟩ := E1
    clear P1 P2 hsk hB1 hQ hR hr hv hD c0 c1 f0 f1 hb HE hx hy
    have hne' : gb ≠ ga := fun e => hne e.symm
    go_wp2_with fail
    go_ret2
    exact .inr ⟨h0, _, _, _, _, _, _, _, _, rfl, HF.out⟩
end Go.Proofs.Ytaipkganijofjab
