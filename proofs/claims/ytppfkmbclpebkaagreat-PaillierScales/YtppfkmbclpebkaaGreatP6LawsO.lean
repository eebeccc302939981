/-
  What stage 6's laws ask of the program's functions; the contract of awake.
-/
import Derived.Test.YtppfkmbclpebkaaGreatP6Few
import Derived.Test.YtppfkmbclpebkaaGreatP6Ans
namespace Go.Proofs.YtppfkmbclpebkaaGreat
open Go.RowKit

/-- The program hides a number behind another one. -/
def EncOk : Prop := ∀ (a b d : Option Addr) (la ca lb cb ld cd : Nat) (ns ys zs : List Int) (w : World), Nums w a la ca ns → Nums w b lb cb ys → Nums w d ld cd zs → Calls Tryz.prog 33 #[.slice a la ca, .slice b lb cb, .slice d ld cd] w fun e w' => TripT (encF ns ys zs) (encV ns ys zs) w e w'
/-- The program puts two cipher texts together. -/
def AddOk : Prop := ∀ (a b d : Option Addr) (la ca lb cb ld cd : Nat) (ns ys zs : List Int) (w : World), Nums w a la ca ns → Nums w b lb cb ys → Nums w d ld cd zs → Calls Tryz.prog 23 #[.slice a la ca, .slice b lb cb, .slice d ld cd] w fun e w' => TripT (addF ns ys zs) (addV ns ys zs) w e w'
/-- The program puts a cipher text and a number together. -/
def PlainOk : Prop := ∀ (a b d : Option Addr) (la ca lb cb ld cd : Nat) (ns ys zs : List Int) (w : World), Nums w a la ca ns → Nums w b lb cb ys → Nums w d ld cd zs → Calls Tryz.prog 25 #[.slice a la ca, .slice b lb cb, .slice d ld cd] w fun e w' => TripT (plainF ns ys zs) (plainV ns ys zs) w e w'
/-- The program makes so many times a cipher text. -/
def ScaleOk : Prop := ∀ (a b d : Option Addr) (la ca lb cb ld cd : Nat) (ns ys zs : List Int) (w : World), Nums w a la ca ns → Nums w b lb cb ys → Nums w d ld cd zs → Calls Tryz.prog 27 #[.slice a la ca, .slice b lb cb, .slice d ld cd] w fun e w' => TripT (plainF ns ys zs) (scaleV ns ys zs) w e w'
/-- The program hides the same behind another number. -/
def AgainOk : Prop := ∀ (a b d : Option Addr) (la ca lb cb ld cd : Nat) (ns ys zs : List Int) (w : World), Nums w a la ca ns → Nums w b lb cb ys → Nums w d ld cd zs → Calls Tryz.prog 29 #[.slice a la ca, .slice b lb cb, .slice d ld cd] w fun e w' => TripT (againF ns ys zs) (againV ns ys zs) w e w'
/-- The program tells a key's public part. -/
def PubOk : Prop := ∀ (P Q : Nat) (w : World), P < 18446744073709551616 → Q < 18446744073709551616 → Calls Tryz.prog 10 #[.agg #[.int .u64 (P : Int), .int .u64 (Q : Int)]] w fun e w' => PubT P Q w e w'
/-- The program tells whether a number may be a public key. -/
def MayOk : Prop := ∀ (a : Option Addr) (la ca : Nat) (ns : List Int) (w : World), Nums w a la ca ns → Calls Tryz.prog 13 #[.slice a la ca] w fun e w' => e = .returned (.bool (pubB ns)) ∧ Below w.heap.size w w'
/-- The program tells whether a number is a cipher text. -/
def ValidOk : Prop := ∀ (a b : Option Addr) (la ca lb cb : Nat) (ns cs : List Int) (w : World), Nums w a la ca ns → Nums w b lb cb cs → Calls Tryz.prog 15 #[.slice a la ca, .slice b lb cb] w fun e w' => e = .returned (.bool (validB ns cs)) ∧ Below w.heap.size w w'
/-- The program tells what a cipher text hides. -/
def DecOk : Prop := ∀ (P Q : Nat) (a : Option Addr) (la ca : Nat) (cs : List Int) (w : World), P < 18446744073709551616 → Q < 18446744073709551616 → Nums w a la ca cs → Calls Tryz.prog 31 #[.agg #[.int .u64 (P : Int), .int .u64 (Q : Int)], .slice a la ca] w fun e w' => DecT P Q cs w e w'
theorem awake_told {ls : List Int} {err : Int} (h : Told (encF [17947] [5] [1]) (encV [17947] [5] [1]) ls err) : ls = [89736] ∧ err = 0 := by
  have hf : encF [17947] [5] [1] = none := by decide +kernel
  have hv : encV [17947] [5] [1] = 89736 := by decide +kernel
  rw [hf, hv] at h
  rcases h with ⟨e, h, _⟩ | ⟨_, h, rfl⟩
  · cases h
  · exact ⟨h.unique ⟨fun y hy => by simp at hy; subst hy; decide, by decide, by simp [val]⟩, rfl⟩

set_option maxHeartbeats 800000 in
theorem awake_any (hE : EncOk) (w : World) : Calls Tryz.prog 9 #[] w fun e w' => e = .returned (.bool true) ∧ Below w.heap.size w w' := by
  have b1 := (Below.refl w.heap.size w).alloc (Nat.le_refl _) (.cells #[.int .u64 17947] 22)
  have n1 := Nums.lit1 w 17947 (by decide) 22
  have s1 : (w.alloc (.cells #[.int .u64 17947] 22)).heap.size = w.heap.size + 1 := by simp
  go_enter Tryz.func9, Tryz.ntmps9
  go_wp2_with fail
  have b2 := (Below.refl (w.alloc (.cells #[.int .u64 17947] 22)).heap.size (w.alloc (.cells #[.int .u64 17947] 22))).alloc (Nat.le_refl _) (.cells #[.int .u64 5] 22)
  have n2 := Nums.lit1 (w.alloc (.cells #[.int .u64 17947] 22)) 5 (by decide) 22
  rw [s1] at n2
  have k1 := n1.below b2
  have b12 := b1.trans (b2.mono b1.size)
  have s2 : ((w.alloc (.cells #[.int .u64 17947] 22)).alloc (.cells #[.int .u64 5] 22)).heap.size = w.heap.size + 1 + 1 := by simp
  generalize (w.alloc (.cells #[.int .u64 17947] 22)).alloc (.cells #[.int .u64 5] 22) = w2 at *
  have b3 := (Below.refl w2.heap.size w2).alloc (Nat.le_refl _) (.cells #[.int .u64 1] 22)
  have n3 := Nums.lit1 w2 1 (by decide) 22
  rw [s2] at n3
  have m1 := k1.below b3
  have m2 := n2.below b3
  have B3 := b12.trans (b3.mono b12.size)
  generalize w2.alloc (.cells #[.int .u64 1] 22) = w3 at *
  refine (hE _ _ _ _ _ _ _ _ _ _ _ _ w3 m1 m2 n3).mono ?_
  rintro e w4 ⟨ra, rl, rc, ls, err, rfl, hN, hT, hb4⟩
  obtain ⟨rfl, rfl⟩ := awake_told hT
  have B4 := B3.trans (hb4.mono B3.size)
  have hl := hN.hlen
  simp at hl
  subst hl
  obtain ⟨b, off, rfl, hc⟩ := hN.cells (by omega)
  have hc0 := hc 0 (by omega)
  simp at hc0
  have hcm := hN.hmax
  have hcc := hN.hcap
  unfold maxLen at hcm
  clear hE b1 n1 b2 n2 k1 b12 b3 n3 m1 m2 B3 hN hT hc hb4 s1 s2
  go_wp2
  go_ret
  exact ⟨rfl, B4⟩
end Go.Proofs.YtppfkmbclpebkaaGreat
