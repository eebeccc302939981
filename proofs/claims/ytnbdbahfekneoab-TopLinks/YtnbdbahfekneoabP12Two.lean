/-
  Two ends of a link side by side in memory, and blocks that neither of them turns.
-/
import Derived.Test.YtnbdbahfekneoabR11G
import Derived.Test.YtnbdbahfekneoabL12Math
namespace Go.Proofs.Ytnbdbahfekneoab
open Go.RowKit

/-- Two ends, their blocks apart and new; C: blocks of others. -/
structure K12 (At : World → Nat → LS → (Nat → Prop) → Prop) (w : World) (g0 g1 : Nat) (s0 s1 : LS) (T0 T1 C : Nat → Prop) (wx : World) : Prop where
  e0 : At wx g0 s0 T0
  e1 : At wx g1 s1 T1
  apart : ∀ b, T0 b → ¬ T1 b
  free : ∀ b, C b → ¬ T0 b ∧ ¬ T1 b ∧ b < wx.heap.size
  new : ∀ b, T0 b ∨ T1 b → w.heap.size ≤ b
  below : Below w.heap.size w wx
theorem K12.turn {At : World → Nat → LS → (Nat → Prop) → Prop} {w wx : World} {g0 g1 : Nat} {s0 s1 : LS} {T0 T1 C : Nat → Prop} (h : K12 At w g0 g1 s0 s1 T0 T1 C wx) : K12 At w g1 g0 s1 s0 T1 T0 C wx :=
  ⟨h.e1, h.e0, fun b h1 h2 => h.apart b h2 h1, fun b hb => ⟨(h.free b hb).2.1, (h.free b hb).1, (h.free b hb).2.2⟩, fun b hb => h.new b hb.symm, h.below⟩
theorem K12.grow {At : World → Nat → LS → (Nat → Prop) → Prop} (A : EndKept11 At) {w wx wy : World} {g0 g1 : Nat} {s0 s1 : LS} {T0 T1 C : Nat → Prop} (h : K12 At w g0 g1 s0 s1 T0 T1 C wx) (hb : Below wx.heap.size wx wy) : K12 At w g0 g1 s0 s1 T0 T1 C wy :=
  ⟨A.below h.e0 hb, A.below h.e1 hb, h.apart, fun b hc => ⟨(h.free b hc).1, (h.free b hc).2.1, Nat.lt_of_lt_of_le (h.free b hc).2.2 hb.size⟩, h.new, h.below.trans (hb.mono h.below.size)⟩
/-- A call on the first end. -/
theorem K12.onX {At : World → Nat → LS → (Nat → Prop) → Prop} (A : EndKept11 At) {w wx wy : World} {g0 g1 : Nat} {s0 s1 s' : LS} {T0 T1 C T' : Nat → Prop} (h : K12 At w g0 g1 s0 s1 T0 T1 C wx) (hE : At wy g0 s' T' ∧ Only T0 wx wy ∧ ∀ b, T' b → T0 b ∨ wx.heap.size ≤ b) : K12 At w g0 g1 s' s1 T' T1 C wy := by
  obtain ⟨b1, b2⟩ := A.beside A h.e0 h.e1 h.apart hE
  refine ⟨hE.1, b1, b2, fun b hc => ⟨fun e => ?_, (h.free b hc).2.1, Nat.lt_of_lt_of_le (h.free b hc).2.2 hE.2.1.size⟩, fun b hb => ?_, h.below.trans (hE.2.1.below (fun b e => h.new b (.inl e)) h.below.size)⟩
  · rcases hE.2.2 b e with q | q
    · exact (h.free b hc).1 q
    · have := (h.free b hc).2.2; omega
  · rcases hb with e | e
    · rcases hE.2.2 b e with q | q
      · exact h.new b (.inl q)
      · exact Nat.le_trans h.below.size q
    · exact h.new b (.inr e)
/-- What others keep stays at a call on the first end. -/
theorem K12.kept {At : World → Nat → LS → (Nat → Prop) → Prop} {w wx wy : World} {g0 g1 : Nat} {s0 s1 : LS} {T0 T1 C : Nat → Prop} (h : K12 At w g0 g1 s0 s1 T0 T1 C wx) (o : Only T0 wx wy) : ∀ b, C b → wy.heap[b]? = wx.heap[b]? := fun b hc => o.block b (h.free b hc).2.2 (h.free b hc).1
/-- Other blocks are turned, which are none of the ends' and none of bytes. -/
theorem K12.other {At : World → Nat → LS → (Nat → Prop) → Prop} (A : EndKept11 At) {w wx wy : World} {g0 g1 : Nat} {s0 s1 : LS} {T0 T1 C D : Nat → Prop} (h : K12 At w g0 g1 s0 s1 T0 T1 C wx) (o : Only D wx wy) (hD : ∀ b, D b → ¬ T0 b ∧ ¬ T1 b) (hB : ∀ b, D b → ¬ IsB wx b) (hn : ∀ b, D b → w.heap.size ≤ b) {C' : Nat → Prop} (hC : ∀ b, C' b → C b ∨ (wx.heap.size ≤ b ∧ b < wy.heap.size)) : K12 At w g0 g1 s0 s1 T0 T1 C' wy := by
  have f0 := A.foot h.e0
  have f1 := A.foot h.e1
  refine ⟨A.other h.e0 o (fun b e q => (hD b e).1 q) hB, A.other h.e1 o (fun b e q => (hD b e).2 q) hB, h.apart, fun b hc => ?_, h.new, h.below.trans (o.below hn h.below.size)⟩
  rcases hC b hc with q | ⟨q1, q2⟩
  · exact ⟨(h.free b q).1, (h.free b q).2.1, Nat.lt_of_lt_of_le (h.free b q).2.2 o.size⟩
  · exact ⟨fun e => by have := f0.2.1 b e; omega, fun e => by have := f1.2.1 b e; omega, q2⟩
theorem K12.less {At : World → Nat → LS → (Nat → Prop) → Prop} {w wx : World} {g0 g1 : Nat} {s0 s1 : LS} {T0 T1 C C' : Nat → Prop} (h : K12 At w g0 g1 s0 s1 T0 T1 C wx) (hC : ∀ b, C' b → C b) : K12 At w g0 g1 s0 s1 T0 T1 C' wx := ⟨h.e0, h.e1, h.apart, fun b hc => h.free b (hC b hc), h.new, h.below⟩
end Go.Proofs.Ytnbdbahfekneoab
