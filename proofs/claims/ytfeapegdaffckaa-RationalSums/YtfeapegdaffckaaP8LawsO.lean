/-
  What stage 8's laws ask of the program's functions; the contracts of few and awake.
-/
import Derived.Test.YtfeapegdaffckaaR8Mem
import Derived.Test.YtfeapegdaffckaaRef8E
import Derived.Test.YtfeapegdaffckaaRef8D
import Derived.Test.YtfeapegdaffckaaRef8F
import Derived.Test.YtfeapegdaffckaaNatA
import Derived.Laws.NewBlocks
namespace Go.Proofs.Ytfeapegdaffckaa
open Go.RowKit

/-- The program's answers on fractions. -/
def MakOk8 : Prop := ∀ (n : Bool) (a b : Option Addr) (la ca lb cb : Nat) (xs ys : List Int) (w : World), Nums w a la ca xs → Nums w b lb cb ys → Calls Try.prog 10 #[.agg #[.bool n, .slice a la ca], .slice b lb cb] w fun e w' => FracT (makeFF n xs ys) (numF (iv n xs) (nv ys)) (denF (iv n xs) (nv ys)) w e w'
def RgtOk8 : Prop := ∀ (n : Bool) (a b : Option Addr) (la ca lb cb : Nat) (xs ys : List Int) (w : World), Nums w a la ca xs → Nums w b lb cb ys → Calls Try.prog 13 #[.agg #[.bool n, .slice a la ca, .slice b lb cb]] w fun e w' => e = .returned (.bool (rightF n xs ys)) ∧ Below w.heap.size w w'
def FlrOk8 : Prop := ∀ (n : Bool) (a b : Option Addr) (la ca lb cb : Nat) (xs ys : List Int) (w : World), Nums w a la ca xs → Nums w b lb cb ys → Calls Try.prog 15 #[.agg #[.bool n, .slice a la ca, .slice b lb cb]] w fun e w' => TripW (flF n xs ys) (iv n xs / (nv ys : Int)) w e w'
def CmpOk8 : Prop := ∀ (n m : Bool) (a b c d : Option Addr) (la ca lb cb lc cc ld cd : Nat) (xs ys us vs : List Int) (w : World), Nums w a la ca xs → Nums w b lb cb ys → Nums w c lc cc us → Nums w d ld cd vs → Calls Try.prog 18 #[.agg #[.bool n, .slice a la ca, .slice b lb cb], .agg #[.bool m, .slice c lc cc, .slice d ld cd]] w fun e w' => e = .returned (.int .i64 (cmpFF n xs ys m us vs)) ∧ Below w.heap.size w w'
def AddOk8 : Prop := ∀ (n m : Bool) (a b c d : Option Addr) (la ca lb cb lc cc ld cd : Nat) (xs ys us vs : List Int) (w : World), Nums w a la ca xs → Nums w b lb cb ys → Nums w c lc cc us → Nums w d ld cd vs → Calls Try.prog 20 #[.agg #[.bool n, .slice a la ca, .slice b lb cb], .agg #[.bool m, .slice c lc cc, .slice d ld cd]] w fun e w' => FracT (arF n xs ys m us vs (addT n xs ys m us vs) (nv ys * nv vs)) (numF (addT n xs ys m us vs) (nv ys * nv vs)) (denF (addT n xs ys m us vs) (nv ys * nv vs)) w e w'
def SubOk8 : Prop := ∀ (n m : Bool) (a b c d : Option Addr) (la ca lb cb lc cc ld cd : Nat) (xs ys us vs : List Int) (w : World), Nums w a la ca xs → Nums w b lb cb ys → Nums w c lc cc us → Nums w d ld cd vs → Calls Try.prog 22 #[.agg #[.bool n, .slice a la ca, .slice b lb cb], .agg #[.bool m, .slice c lc cc, .slice d ld cd]] w fun e w' => FracT (arF n xs ys m us vs (subT n xs ys m us vs) (nv ys * nv vs)) (numF (subT n xs ys m us vs) (nv ys * nv vs)) (denF (subT n xs ys m us vs) (nv ys * nv vs)) w e w'
def MulOk8 : Prop := ∀ (n m : Bool) (a b c d : Option Addr) (la ca lb cb lc cc ld cd : Nat) (xs ys us vs : List Int) (w : World), Nums w a la ca xs → Nums w b lb cb ys → Nums w c lc cc us → Nums w d ld cd vs → Calls Try.prog 24 #[.agg #[.bool n, .slice a la ca, .slice b lb cb], .agg #[.bool m, .slice c lc cc, .slice d ld cd]] w fun e w' => FracT (arF n xs ys m us vs (mulT n xs m us) (nv ys * nv vs)) (numF (mulT n xs m us) (nv ys * nv vs)) (denF (mulT n xs m us) (nv ys * nv vs)) w e w'

/-- A call tells yes or no, and leaves the world alone. -/
def AnyB (w : World) (e : Ending) (w' : World) : Prop := ∃ q, e = .returned (.bool q) ∧ w' = w

set_option maxHeartbeats 800000 in
theorem few8_any (b n cap : Nat) (A B : Nat → Option Addr) (La Ca Lb Cb : Nat → Nat) (w : World) (hn : n ≤ 1000) (hm : ∀ i, i < n → La i ≤ maxLen ∧ Lb i ≤ maxLen)
    (hc : ∀ i, i < n → w.cell? ⟨b, i * 3 + 1, none⟩ = some (.slice (A i) (La i) (Ca i)) ∧ w.cell? ⟨b, i * 3 + 2, none⟩ = some (.slice (B i) (Lb i) (Cb i))) :
    Calls Try.prog 8 #[.slice (some ⟨b, 0, none⟩) n cap] w fun e w' => AnyB w e w' := by
  have HC : Hid (∀ i, i < n → (La i ≤ maxLen ∧ Lb i ≤ maxLen) ∧ w.cell? ⟨b, i * 3 + 1, none⟩ = some (.slice (A i) (La i) (Ca i)) ∧ w.cell? ⟨b, i * 3 + 2, none⟩ = some (.slice (B i) (Lb i) (Cb i))) := fun i hi => ⟨hm i hi, hc i hi⟩
  clear hc hm
  go_enter Try.func8, Try.ntmps8
  go_wp2
  go_loopw [3] (fun i wr => ∃ k : Nat, k ≤ n ∧ i = .int .i64 k ∧ wr = w) (fun i _ => n - (intOf i).toNat)
  case atStart => exact ⟨0, Nat.zero_le _, rfl, rfl⟩
  case round =>
    obtain ⟨k, hk, rfl, rfl⟩ := hrel
    by_cases hlt : k < n
    · obtain ⟨⟨m1, m2⟩, c1, c2⟩ := HC.out k hlt
      unfold maxLen at m1 m2
      have hlti : (k : Int) < (n : Int) := by omega
      by_cases hM : 20 < La k
      · have hd : (20 : Int) < (La k : Int) := by omega
        go_wp2
        go_ret
        exact ⟨false, rfl, rfl⟩
      · have hd : decide ((20 : Int) < (La k : Int)) = false := decide_eq_false (by omega)
        by_cases hN : 20 < Lb k
        · have he : (20 : Int) < (Lb k : Int) := by omega
          go_wp2
          go_ret
          exact ⟨false, rfl, rfl⟩
        · have he : decide ((20 : Int) < (Lb k : Int)) = false := decide_eq_false (by omega)
          go_wp2
          go_roundw
          case rel => exact ⟨k + 1, by omega, by go_num, by first | rfl | trivial⟩
          case measure => simp [intOf]; omega
    · have hge : ¬ (k : Int) < (n : Int) := by omega
      go_wp2
      go_ret
      exact ⟨true, rfl, rfl⟩

theorem few8_one (n : Bool) (a b : Option Addr) (la ca lb cb : Nat) (xs ys : List Int) (w : World) (h1 : Nums w a la ca xs) (h2 : Nums w b lb cb ys) :
    Calls Try.prog 8 #[.slice (some ⟨w.heap.size, 0, none⟩) 1 1] (w.alloc (.cells #[.bool n, .slice a la ca, .slice b lb cb] 27)) fun e w' => ∃ q, e = .returned (.bool q) ∧ Below w.heap.size w w' := by
  refine (few8_any w.heap.size 1 1 (fun _ => a) (fun _ => b) (fun _ => la) (fun _ => ca) (fun _ => lb) (fun _ => cb) _ (by omega) (fun i _ => ⟨Nat.le_trans h1.hcap h1.hmax, Nat.le_trans h2.hcap h2.hmax⟩) ?_).mono ?_
  · intro i hi
    obtain rfl : i = 0 := by omega
    exact ⟨by simp, by simp⟩
  · rintro e w' ⟨q, rfl, rfl⟩
    exact ⟨q, rfl, balloc _ _⟩
theorem few8_two (n m : Bool) (a b c d : Option Addr) (la ca lb cb lc cc ld cd : Nat) (xs ys us vs : List Int) (w : World) (h1 : Nums w a la ca xs) (h2 : Nums w b lb cb ys) (h3 : Nums w c lc cc us) (h4 : Nums w d ld cd vs) :
    Calls Try.prog 8 #[.slice (some ⟨w.heap.size, 0, none⟩) 2 2] (w.alloc (.cells #[.bool n, .slice a la ca, .slice b lb cb, .bool m, .slice c lc cc, .slice d ld cd] 27)) fun e w' => ∃ q, e = .returned (.bool q) ∧ Below w.heap.size w w' := by
  refine (few8_any w.heap.size 2 2 (fun k => if k = 0 then a else c) (fun k => if k = 0 then b else d) (fun k => if k = 0 then la else lc) (fun k => if k = 0 then ca else cc) (fun k => if k = 0 then lb else ld) (fun k => if k = 0 then cb else cd) _ (by omega) ?_ ?_).mono ?_
  · intro i hi
    have : i = 0 ∨ i = 1 := by omega
    rcases this with rfl | rfl
    · exact ⟨Nat.le_trans h1.hcap h1.hmax, Nat.le_trans h2.hcap h2.hmax⟩
    · exact ⟨Nat.le_trans h3.hcap h3.hmax, Nat.le_trans h4.hcap h4.hmax⟩
  · intro i hi
    have : i = 0 ∨ i = 1 := by omega
    rcases this with rfl | rfl
    · exact ⟨by simp, by simp⟩
    · exact ⟨by simp, by simp⟩
  · rintro e w' ⟨q, rfl, rfl⟩
    exact ⟨q, rfl, balloc _ _⟩

theorem awake8_told {n : Bool} {us vs : List Int} {err : Int} (h : ToldF (makeFF false [6] [4]) (numF (iv false [6]) (nv [4])) (denF (iv false [6]) (nv [4])) n us vs err) : (n = false ∧ us = [3] ∧ vs = [2]) ∧ err = 0 := by
  have hf : makeFF false [6] [4] = none := by decide +kernel
  have hx : numF (iv false [6]) (nv [4]) = 3 := by decide +kernel
  have hy : denF (iv false [6]) (nv [4]) = 2 := by decide +kernel
  rw [hf, hx, hy] at h
  rcases h with ⟨e, h, _⟩ | ⟨_, ⟨h1, h2⟩, rfl⟩
  · cases h
  · obtain ⟨rfl, rfl⟩ := h1.unique (m := false) (ys := [3]) ⟨fun y hy => by simp at hy; subst hy; decide, by decide, by simp [iv, val]⟩
    obtain rfl := h2.unique (ks := [2]) ⟨fun y hy => by simp at hy; subst hy; decide, by decide, by simp [val]⟩
    exact ⟨⟨rfl, rfl, rfl⟩, rfl⟩

set_option maxRecDepth 20000 in
set_option maxHeartbeats 1600000 in
theorem awake8_any (hE : MakOk8) (w : World) : Calls Try.prog 9 #[] w fun e w' => e = .returned (.bool true) ∧ Below w.heap.size w w' := by
  have b1 := balloc w (.cells #[.int .u64 6] 42)
  have n1 := Nums.lit1 w 6 (by decide) 42
  have b2 := balloc (w.alloc (.cells #[.int .u64 6] 42)) (.cells #[.int .u64 4] 42)
  have n2 := Nums.lit1 (w.alloc (.cells #[.int .u64 6] 42)) 4 (by decide) 42
  rw [World.size_alloc] at n2
  have k1 := n1.below b2
  have b12 := bthen b1 b2
  obtain ⟨W, hW⟩ : ∃ W, W = (w.alloc (.cells #[.int .u64 6] 42)).alloc (.cells #[.int .u64 4] 42) := ⟨_, rfl⟩
  rw [← hW] at n2 k1 b12
  have HW : Hid (W = (w.alloc (.cells #[.int .u64 6] 42)).alloc (.cells #[.int .u64 4] 42)) := hW
  clear hW b1 b2 n1
  have HE := (show Hid _ from hE false _ _ _ _ _ _ _ _ W k1 n2)
  clear hE k1 n2
  go_enter Try.func9, Try.ntmps9
  go_wp2_with fail
  rw [← HW.out]
  refine Calls.mono HE.out ?_
  rintro e w4 ⟨mb, p, l, c, p', l', c', us, vs, err, rfl, ⟨hU, hV⟩, hT, hb4⟩
  obtain ⟨⟨rfl, rfl, rfl⟩, rfl⟩ := awake8_told hT
  have B4 := bthen b12 hb4
  have hl := hU.hlen
  simp at hl
  subst hl
  have hl' := hV.hlen
  simp at hl'
  subst hl'
  have hA := balloc w4 (.cells #[.bool false, .slice p 1 c, .slice p' 1 c'] 27)
  have BA := bthen B4 hA
  obtain ⟨r0, r1, r2, -, -, -⟩ := Cell3.new w4 false p p' 1 c 1 c'
  replace hU := hU.below hA
  replace hV := hV.below hA
  obtain ⟨b, off, rfl, hc⟩ := hU.cells (by omega)
  have hc0 := hc 0 (by omega)
  simp at hc0
  obtain ⟨d, off', rfl, hd⟩ := hV.cells (by omega)
  have hd0 := hd 0 (by omega)
  simp at hd0
  have hcm := hU.hmax
  have hcc := hU.hcap
  have hdm := hV.hmax
  have hdc := hV.hcap
  unfold maxLen at hcm hdm
  clear HE HW b12 hT hb4 hc hd hU hV hA B4
  go_wp2
  go_ret
  exact ⟨rfl, BA⟩

theorem r8same_eq (n : Bool) (a b c d : Option Addr) (la ca lb cb lc cc ld cd : Nat) (xs ys : List Int) (w : World) (h1 : Nums w a la ca xs) (h2 : Nums w b lb cb ys) (h3 : Nums w c lc cc xs) (h4 : Nums w d ld cd ys) :
    Calls Try.prog 12 #[.agg #[.bool n, .slice a la ca, .slice b lb cb], .agg #[.bool n, .slice c lc cc, .slice d ld cd]] w fun e w' => e = .returned (.bool true) ∧ Below w.heap.size w w' := by
  refine (r8same_any n n _ _ _ _ _ _ _ _ _ _ _ _ _ _ _ _ w h1 h2 h3 h4).mono ?_
  rintro e w' ⟨rfl, hb⟩
  rw [sameB_self, sameB_self]
  exact ⟨by simp, hb⟩
end Go.Proofs.Ytfeapegdaffckaa
