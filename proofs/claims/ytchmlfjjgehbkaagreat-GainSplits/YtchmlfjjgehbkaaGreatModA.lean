/-
  Whole numbers (a sign and limbs): what they are, and contracts of modint's Right, signed and From, and of the document's.
  Contracts of modint's Of, Neg, Small and Cmp, and of the document's.
  What is told of sums, differences, products and quotients of whole numbers.
  What is told of the quotient, rounded down, and the rest of two whole numbers.
  Four blocks of two cells in a row, and stores of two whole numbers.
-/
import Derived.Test.YtchmlfjjgehbkaaGreatNatC
import Derived.Laws.NewBlocks
import Derived.Test.YtchmlfjjgehbkaaGreatNatA
import Derived.Test.YtchmlfjjgehbkaaGreatNatE
namespace Go.Proofs.YtchmlfjjgehbkaaGreat
open Go.RowKit

/-- The whole number of a sign and limbs; may it be? -/
def iv (n : Bool) (zs : List Int) : Int := if n then - val 18446744073709551616 zs else val 18446744073709551616 zs
def rightI (n : Bool) (zs : List Int) : Bool := rightB zs && !(n && decide (zs.length = 0))

/-- The limbs and the sign that From tells. -/
def fromL (zs : List Int) : List Int := if rightB zs then zs else []
def fromN (n : Bool) (zs : List Int) : Bool := n && decide (0 < (fromL zs).length)

set_option maxHeartbeats 400000 in
theorem iright_any (n : Bool) (a : Option Addr) (la ca : Nat) (zs : List Int) (w : World) (h : Nums w a la ca zs) :
    Calls Tryz.prog 59 #[.agg #[.bool n, .slice a la ca]] w fun e w' => e = .returned (.bool (rightI n zs)) ∧ Below w.heap.size w w' := by
  have hB := (Below.refl w.heap.size w).alloc (Nat.le_refl _) (.cells #[.bool n, .slice a la ca] 28)
  have H := h.below hB
  have hl := h.hlen
  have hm := h.hmax
  have hcp := h.hcap
  unfold maxLen at hm
  cases hr : rightB zs with
  | false =>
    have e : rightI n zs = false := by simp [rightI, hr]
    rw [e]
    go_enter Tryz.func59, Tryz.ntmps59
    go_wp2_with fail
    refine (right_any _ _ _ _ _ H).mono ?_
    rintro e w' ⟨rfl, rfl⟩
    rw [hr]
    go_wp2_with fail
    go_ret
    exact ⟨rfl, hB⟩
  | true =>
    cases n with
    | false =>
      have e : rightI false zs = true := by simp [rightI, hr]
      rw [e]
      go_enter Tryz.func59, Tryz.ntmps59
      go_wp2_with fail
      refine (right_any _ _ _ _ _ H).mono ?_
      rintro e w' ⟨rfl, rfl⟩
      rw [hr]
      go_wp2_with fail
      go_ret
      exact ⟨rfl, hB⟩
    | true =>
      by_cases h0 : la = 0
      · have e : rightI true zs = false := by simp [rightI, hl, h0]
        rw [e]
        subst h0
        go_enter Tryz.func59, Tryz.ntmps59
        go_wp2_with fail
        refine (right_any _ _ _ _ _ H).mono ?_
        rintro e w' ⟨rfl, rfl⟩
        rw [hr]
        go_wp2_with fail
        go_ret
        exact ⟨rfl, hB⟩
      · have e : rightI true zs = true := by simp [rightI, hr, hl, h0]
        rw [e]
        have hne : ((la : Int) == 0) = false := by simp; omega
        clear hl
        go_enter Tryz.func59, Tryz.ntmps59
        go_wp2_with fail
        refine (right_any _ _ _ _ _ H).mono ?_
        rintro e w' ⟨rfl, rfl⟩
        rw [hr]
        go_wp2_with fail
        go_ret
        exact ⟨rfl, hB⟩

set_option maxHeartbeats 400000 in
theorem signed_any (n : Bool) (a : Option Addr) (la ca : Nat) (zs : List Int) (w : World) (h : Nums w a la ca zs) :
    Calls Tryz.prog 70 #[.bool n, .slice a la ca] w fun e w' => e = .returned (.agg #[.bool (n && decide (0 < zs.length)), .slice a la ca]) ∧ Below w.heap.size w w' := by
  have hl := h.hlen
  have hm := h.hmax
  have hcp := h.hcap
  unfold maxLen at hm
  have hB := (Below.refl w.heap.size w).alloc (Nat.le_refl _) (.cells #[.bool (n && decide (0 < zs.length)), .slice a la ca] 28)
  cases n with
  | false =>
    rw [Bool.false_and] at hB ⊢
    go_enter Tryz.func70, Tryz.ntmps70
    go_wp2_with fail
    exact bodyPost_ret (v := .agg #[.bool false, .slice a la ca]) (by simp [results, Tryz.results70, go_sem]) rfl ⟨rfl, hB⟩
  | true =>
    rw [Bool.true_and] at hB ⊢
    by_cases h0 : 0 < la
    · rw [show decide (0 < zs.length) = true by rw [hl]; simp; omega] at hB ⊢
      have hp : (0 : Int) < (la : Int) := by omega
      clear hl
      go_enter Tryz.func70, Tryz.ntmps70
      go_wp2_with fail
      exact bodyPost_ret (v := .agg #[.bool true, .slice a la ca]) (by simp [results, Tryz.results70, go_sem]) rfl ⟨rfl, hB⟩
    · rw [show decide (0 < zs.length) = false by rw [hl]; simp; omega] at hB ⊢
      obtain rfl : la = 0 := by omega
      clear hl
      go_enter Tryz.func70, Tryz.ntmps70
      go_wp2_with fail
      exact bodyPost_ret (v := .agg #[.bool false, .slice a 0 ca]) (by simp [results, Tryz.results70, go_sem]) rfl ⟨rfl, hB⟩

/-- The behind of a store of a whole number into a cell that was made since. -/
theorem bcell {W w1 : World} (hb : Below W.heap.size W w1) : (∀ b o, b < W.heap.size → w1.cell? ⟨b, o, none⟩ = W.cell? ⟨b, o, none⟩) ∧ (∀ b o, b < W.heap.size → w1.frozen? ⟨b, o, none⟩ = W.frozen? ⟨b, o, none⟩) :=
  ⟨fun b o h => hb.cell (p := ⟨b, o, none⟩) h, fun b o h => hb.frozen (p := ⟨b, o, none⟩) h⟩

/-- Two cells of a block that was made stand behind what leaves old memory alone. -/
theorem held2 {w w2 : World} {x y : Value} {t : TypeId} (hb : Below (w.alloc (.cells #[x, y] t)).heap.size (w.alloc (.cells #[x, y] t)) w2) :
    (w2.cell? ⟨w.heap.size, 0, none⟩ = some x ∧ w2.cell? ⟨w.heap.size, 1, none⟩ = some y) ∧ w2.frozen? ⟨w.heap.size, 0, none⟩ = false ∧ w2.frozen? ⟨w.heap.size, 1, none⟩ = false := by
  obtain ⟨hc, hf⟩ := bcell hb
  refine ⟨⟨?_, ?_⟩, ?_, ?_⟩
  · rw [hc _ _ (by simp)]; simp
  · rw [hc _ _ (by simp)]; simp
  · rw [hf _ _ (by simp)]; simp
  · rw [hf _ _ (by simp)]; simp

theorem Nums.put {w : World} {a : Option Addr} {n c : Nat} {zs : List Int} (h : Nums w a n c zs) {p : Addr} {x : Value} (hp : w.cell? p = some x) (hx : ∀ z, x ≠ .int .u64 z) (v : Value) : Nums (w.setCell p v) a n c zs := by
  refine ⟨h.hlen, h.hcap, h.hmax, fun h0 => ?_, h.word⟩
  obtain ⟨b, off, e, hc⟩ := h.cells h0
  refine ⟨b, off, e, fun i hi => ?_⟩
  rw [World.cell?_setCell_other]
  · exact hc i hi
  · intro e2
    have := hc i hi
    rw [← e2, hp] at this
    exact hx _ (Option.some.inj this)

/-- A whole number is stored in a result's cell: no word has turned. -/
theorem Nums.put2 {w : World} {a : Option Addr} {n c g : Nat} {zs : List Int} (h : Nums w a n c zs) {q : Bool} {sa : Option Addr} {sn sc : Nat} (c0 : w.cell? ⟨g, 0, none⟩ = some (.bool q)) (c1 : w.cell? ⟨g, 1, none⟩ = some (.slice sa sn sc)) (x y : Value) :
    Nums ((w.setCell ⟨g, 0, none⟩ x).setCell ⟨g, 1, none⟩ y) a n c zs := by
  refine (h.put c0 (fun z => by simp) x).put (x := .slice sa sn sc) ?_ (fun z => by simp) y
  rw [World.cell?_setCell_other]
  · exact c1
  · simp

theorem put2_other {w : World} {g g' i : Nat} (h : g' ≠ g) (x y : Value) : ((w.setCell ⟨g, 0, none⟩ x).setCell ⟨g, 1, none⟩ y).cell? ⟨g', i, none⟩ = w.cell? ⟨g', i, none⟩ := by
  rw [World.cell?_setCell_other, World.cell?_setCell_other]
  · intro e; cases e; exact h rfl
  · intro e; cases e; exact h rfl

set_option maxHeartbeats 400000 in
theorem from_any (n : Bool) (a : Option Addr) (la ca : Nat) (zs : List Int) (w : World) (h : Nums w a la ca zs) :
    Calls Tryz.prog 69 #[.bool n, .slice a la ca] w fun e w' => ∃ a' n' c', e = .returned (.agg #[.bool (fromN n zs), .slice a' n' c']) ∧ Nums w' a' n' c' (fromL zs) ∧ Below w.heap.size w w' := by
  have hB := (Below.refl w.heap.size w).alloc (Nat.le_refl _) (.cells #[.bool false, .slice none 0 0] 28)
  have H := h.below hB
  cases hr : rightB zs with
  | false =>
    have e1 : fromL zs = [] := by simp [fromL, hr]
    have e2 : fromN n zs = false := by simp [fromN, e1]
    rw [e1, e2]
    go_enter Tryz.func69, Tryz.ntmps69
    go_wp2_with fail
    refine (right_any _ _ _ _ _ H).mono ?_
    rintro e w' ⟨rfl, rfl⟩
    rw [hr]
    go_wp2_with fail
    exact bodyPost_ret (v := .agg #[.bool false, .slice none 0 0]) (by simp [results, Tryz.results69, go_sem]) rfl ⟨_, _, _, rfl, Nums.nil _, hB⟩
  | true =>
    have e1 : fromL zs = zs := by simp [fromL, hr]
    have e2 : fromN n zs = (n && decide (0 < zs.length)) := by simp [fromN, e1]
    rw [e1, e2]
    clear e1 e2
    obtain ⟨q, hq⟩ : ∃ q, q = (n && decide (0 < zs.length)) := ⟨_, rfl⟩
    rw [← hq]
    have HQ : Hid (q = (n && decide (0 < zs.length))) := hq
    clear hq
    have hl := h.hlen
    have hl2 := right_len hr
    go_enter Tryz.func69, Tryz.ntmps69
    go_wp2_with fail
    refine (right_any _ _ _ _ _ H).mono ?_
    rintro e w' ⟨rfl, rfl⟩
    rw [hr]
    go_wp2_with fail
    refine (clone_any _ _ _ _ _ H (by omega)).mono ?_
    rintro e w1 ⟨a', n', c', rfl, hn, -, hb1⟩
    go_wp2_with fail
    refine (signed_any _ _ _ _ _ _ hn).mono ?_
    rintro e w2 ⟨rfl, hb2⟩
    rw [← HQ.out]
    have hb12 := hb1.trans (hb2.mono hb1.size)
    obtain ⟨⟨c0, c1⟩, f0, f1⟩ := held2 hb12
    have hn2 := (hn.below hb2).put2 c0 c1 (.bool q) (.slice a' n' c')
    have hBB := ((hB.trans (hb12.mono hB.size)).setCell (p := ⟨w.heap.size, 0, none⟩) (Nat.le_refl _) (.bool q)).setCell (p := ⟨w.heap.size, 1, none⟩) (Nat.le_refl _) (.slice a' n' c')
    clear hl hn hb1 hb2 hb12 H hB
    go_wp2_with fail
    exact bodyPost_ret (v := .agg #[.bool q, .slice a' n' c']) (by simp [results, Tryz.results69, go_sem, c0, c1]) rfl ⟨_, _, _, rfl, hn2, hBB⟩

theorem bkeep {B : Nat} {w w' : World} (hb : Below B w w') {p : Addr} {x : Value} (h : w.cell? p = some x) (hB : w.heap.size = B) : w'.cell? p = some x :=
  (hb.cell (p := p) (by rw [← hB]; exact World.block_lt_of_cell? w _ h)).trans h

/-- The cells of two blocks of two cells, and of three, that were made in a row, stand behind what leaves old memory alone. -/
theorem held22 {w w2 : World} {x y x' y' : Value} {t t' : TypeId} (hb : Below ((w.alloc (.cells #[x, y] t)).alloc (.cells #[x', y'] t')).heap.size ((w.alloc (.cells #[x, y] t)).alloc (.cells #[x', y'] t')) w2) :
    (w2.cell? ⟨w.heap.size, 0, none⟩ = some x ∧ w2.cell? ⟨w.heap.size, 1, none⟩ = some y) ∧ (w2.cell? ⟨w.heap.size + 1, 0, none⟩ = some x' ∧ w2.cell? ⟨w.heap.size + 1, 1, none⟩ = some y') ∧
    (w2.frozen? ⟨w.heap.size, 0, none⟩ = false ∧ w2.frozen? ⟨w.heap.size, 1, none⟩ = false) ∧ w2.frozen? ⟨w.heap.size + 1, 0, none⟩ = false ∧ w2.frozen? ⟨w.heap.size + 1, 1, none⟩ = false := by
  obtain ⟨hc, hf⟩ := bcell hb
  refine ⟨⟨?_, ?_⟩, ⟨?_, ?_⟩, ⟨?_, ?_⟩, ?_, ?_⟩
  · rw [hc w.heap.size 0 (by simp; omega)]; simp
  · rw [hc w.heap.size 1 (by simp; omega)]; simp
  · rw [hc (w.heap.size + 1) 0 (by simp)]; simp
  · rw [hc (w.heap.size + 1) 1 (by simp)]; simp
  · rw [hf w.heap.size 0 (by simp; omega)]; simp
  · rw [hf w.heap.size 1 (by simp; omega)]; simp
  · rw [hf (w.heap.size + 1) 0 (by simp)]; simp
  · rw [hf (w.heap.size + 1) 1 (by simp)]; simp

theorem held222 {w w2 : World} {x y x' y' x'' y'' : Value} {t t' t'' : TypeId} (hb : Below (((w.alloc (.cells #[x, y] t)).alloc (.cells #[x', y'] t')).alloc (.cells #[x'', y''] t'')).heap.size (((w.alloc (.cells #[x, y] t)).alloc (.cells #[x', y'] t')).alloc (.cells #[x'', y''] t'')) w2) :
    (w2.cell? ⟨w.heap.size, 0, none⟩ = some x ∧ w2.cell? ⟨w.heap.size, 1, none⟩ = some y) ∧ (w2.cell? ⟨w.heap.size + 1, 0, none⟩ = some x' ∧ w2.cell? ⟨w.heap.size + 1, 1, none⟩ = some y') ∧ (w2.cell? ⟨w.heap.size + 1 + 1, 0, none⟩ = some x'' ∧ w2.cell? ⟨w.heap.size + 1 + 1, 1, none⟩ = some y'') ∧
    w2.frozen? ⟨w.heap.size + 1 + 1, 0, none⟩ = false ∧ w2.frozen? ⟨w.heap.size + 1 + 1, 1, none⟩ = false := by
  obtain ⟨hc, hf⟩ := bcell hb
  have b1 : Below (w.alloc (.cells #[x, y] t)).heap.size (w.alloc (.cells #[x, y] t)) (((w.alloc (.cells #[x, y] t)).alloc (.cells #[x', y'] t')).alloc (.cells #[x'', y''] t'')) := ((Below.refl _ _).alloc (Nat.le_refl _) _).alloc (by simp) _
  have b2 : Below ((w.alloc (.cells #[x, y] t)).alloc (.cells #[x', y'] t')).heap.size ((w.alloc (.cells #[x, y] t)).alloc (.cells #[x', y'] t')) (((w.alloc (.cells #[x, y] t)).alloc (.cells #[x', y'] t')).alloc (.cells #[x'', y''] t'')) := (Below.refl _ _).alloc (Nat.le_refl _) _
  have z1 : (w.alloc (.cells #[x, y] t)).heap.size = w.heap.size + 1 := by simp
  have z2 : ((w.alloc (.cells #[x, y] t)).alloc (.cells #[x', y'] t')).heap.size = w.heap.size + 1 + 1 := by simp
  rw [← z2, ← z1]
  refine ⟨⟨?_, ?_⟩, ⟨?_, ?_⟩, ⟨?_, ?_⟩, ?_, ?_⟩
  · exact bkeep hb (bkeep b1 (by simp) rfl) rfl
  · exact bkeep hb (bkeep b1 (by simp) rfl) rfl
  · exact bkeep hb (bkeep b2 (by rw [World.cell?_alloc_new]; rfl) rfl) rfl
  · exact bkeep hb (bkeep b2 (by rw [World.cell?_alloc_new]; rfl) rfl) rfl
  · rw [hc _ 0 (by simp)]; rw [World.cell?_alloc_new]; rfl
  · rw [hc _ 1 (by simp)]; rw [World.cell?_alloc_new]; rfl
  · rw [hf _ 0 (by simp)]; exact World.frozen?_alloc_new _ _ _ _
  · rw [hf _ 1 (by simp)]; exact World.frozen?_alloc_new _ _ _ _

set_option maxHeartbeats 400000 in
theorem isame_any (n m : Bool) (a b : Option Addr) (la ca lb cb : Nat) (zs ys : List Int) (w : World) (h : Nums w a la ca zs) (h' : Nums w b lb cb ys) :
    Calls Tryz.prog 22 #[.agg #[.bool n, .slice a la ca], .agg #[.bool m, .slice b lb cb]] w fun e w' => e = .returned (.bool (decide (n = m) && sameB zs ys)) ∧ Below w.heap.size w w' := by
  have hB := ((Below.refl w.heap.size w).alloc (Nat.le_refl _) (.cells #[.bool n, .slice a la ca] 28)).alloc (by simp) (.cells #[.bool m, .slice b lb cb] 28)
  have H := h.below hB
  have H' := h'.below hB
  go_enter Tryz.func22, Tryz.ntmps22
  go_wp2_with fail
  refine (same_any _ _ _ _ _ _ _ _ _ H H').mono ?_
  rintro e w2 ⟨rfl, hb⟩
  obtain ⟨⟨c0, c1⟩, ⟨d0, d1⟩, -, -⟩ := held22 hb
  have hBB := hB.trans (hb.mono hB.size)
  clear hB H H' hb
  cases n <;> cases m <;> (go_wp2_with fail; go_ret; exact ⟨by simp, hBB⟩)
theorem isame_eq (V : World) (n : Bool) (a b : Option Addr) (la ca lb cb : Nat) (zs : List Int) (w : World) (h : Nums w a la ca zs) (h' : Nums w b lb cb zs) (hV : Below V.heap.size V w) :
    Calls Tryz.prog 22 #[.agg #[.bool n, .slice a la ca], .agg #[.bool n, .slice b lb cb]] w fun e w' => e = .returned (.bool true) ∧ Below V.heap.size V w' := by
  refine (isame_any n n a b la ca lb cb zs zs w h h').mono ?_
  rintro e w' ⟨rfl, hb⟩
  rw [sameB_self]
  exact ⟨by simp, hV.trans (hb.mono hV.size)⟩
theorem Nums.alike {w w' : World} {a : Option Addr} {n c : Nat} {zs : List Int} (h : Nums w a n c zs) (he : ∀ p, w'.cell? p = w.cell? p) : Nums w' a n c zs := by
  refine ⟨h.hlen, h.hcap, h.hmax, fun h0 => ?_, h.word⟩
  obtain ⟨b, off, e, hc⟩ := h.cells h0
  exact ⟨b, off, e, fun i hi => (he _).trans (hc i hi)⟩

set_option maxHeartbeats 400000 in
theorem refIRight_any (n : Bool) (a : Option Addr) (la ca : Nat) (zs : List Int) (w : World) (h : Nums w a la ca zs) :
    Calls Tryz.prog 51 #[.agg #[.bool n, .slice a la ca]] w fun e w' => e = .returned (.bool (rightI n zs)) ∧ Below w.heap.size w w' := by
  have hB := (Below.refl w.heap.size w).alloc (Nat.le_refl _) (.cells #[.bool n, .slice a la ca] 28)
  have H := h.below hB
  have hl := h.hlen
  have hm := h.hmax
  have hcp := h.hcap
  unfold maxLen at hm
  cases hr : rightB zs with
  | false =>
    have e : rightI n zs = false := by simp [rightI, hr]
    rw [e]
    go_enter Tryz.func51, Tryz.ntmps51
    go_wp2_with fail
    refine (refRight_any _ _ _ _ _ H).mono ?_
    rintro e w' ⟨rfl, rfl⟩
    rw [hr]
    go_wp2_with fail
    go_ret
    exact ⟨rfl, hB⟩
  | true =>
    cases n with
    | false =>
      have e : rightI false zs = true := by simp [rightI, hr]
      rw [e]
      go_enter Tryz.func51, Tryz.ntmps51
      go_wp2_with fail
      refine (refRight_any _ _ _ _ _ H).mono ?_
      rintro e w' ⟨rfl, rfl⟩
      rw [hr]
      go_wp2_with fail
      go_ret
      exact ⟨rfl, hB⟩
    | true =>
      by_cases h0 : la = 0
      · have e : rightI true zs = false := by simp [rightI, hl, h0]
        rw [e]
        subst h0
        go_enter Tryz.func51, Tryz.ntmps51
        go_wp2_with fail
        refine (refRight_any _ _ _ _ _ H).mono ?_
        rintro e w' ⟨rfl, rfl⟩
        rw [hr]
        go_wp2_with fail
        go_ret
        exact ⟨rfl, hB⟩
      · have e : rightI true zs = true := by simp [rightI, hr, hl, h0]
        rw [e]
        have hne : (0 : Int) < (la : Int) := by omega
        have hn0 : 0 < la := by omega
        clear hl
        go_enter Tryz.func51, Tryz.ntmps51
        go_wp2_with fail
        refine (refRight_any _ _ _ _ _ H).mono ?_
        rintro e w' ⟨rfl, rfl⟩
        rw [hr]
        go_wp2_with fail
        go_ret
        exact ⟨rfl, hB⟩

set_option maxHeartbeats 400000 in
theorem refFrom_any (n : Bool) (a : Option Addr) (la ca : Nat) (zs : List Int) (w : World) (h : Nums w a la ca zs) :
    Calls Tryz.prog 55 #[.bool n, .slice a la ca] w fun e w' => ∃ a' n' c', e = .returned (.agg #[.bool (fromN n zs), .slice a' n' c']) ∧ Nums w' a' n' c' (fromL zs) ∧ Below w.heap.size w w' := by
  have hB := (Below.refl w.heap.size w).alloc (Nat.le_refl _) (.cells #[.bool false, .slice none 0 0] 28)
  have H := h.below hB
  have hl := h.hlen
  have hd := h.digs
  cases hr : rightB zs with
  | false =>
    have e1 : fromL zs = [] := by simp [fromL, hr]
    have e2 : fromN n zs = false := by simp [fromN, e1]
    rw [e1, e2]
    clear hl
    go_enter Tryz.func55, Tryz.ntmps55
    go_wp2_with fail
    refine (refRight_any _ _ _ _ _ H).mono ?_
    rintro e w' ⟨rfl, rfl⟩
    rw [hr]
    go_wp2_with fail
    exact bodyPost_ret (v := .agg #[.bool false, .slice none 0 0]) (by simp [results, Tryz.results55, go_sem]) rfl ⟨_, _, _, rfl, Nums.nil _, hB⟩
  | true =>
    by_cases h0 : la = 0
    · have e1 : fromL zs = [] := by
        have : zs = [] := List.eq_nil_of_length_eq_zero (by omega)
        subst this; rfl
      have e2 : fromN n zs = false := by simp [fromN, e1]
      rw [e1, e2]
      subst h0
      clear hl
      go_enter Tryz.func55, Tryz.ntmps55
      go_wp2_with fail
      refine (refRight_any _ _ _ _ _ H).mono ?_
      rintro e w' ⟨rfl, rfl⟩
      rw [hr]
      go_wp2_with fail
      exact bodyPost_ret (v := .agg #[.bool false, .slice none 0 0]) (by simp [results, Tryz.results55, go_sem]) rfl ⟨_, _, _, rfl, Nums.nil _, hB⟩
    · have e1 : fromL zs = zs := by simp [fromL, hr]
      have e2 : fromN n zs = n := by simp [fromN, e1, hl]; omega
      rw [e1, e2]
      obtain ⟨b, off, rfl, -⟩ := h.cells (by omega)
      have hl2 := right_len hr
      have hm := h.hmax
      have hcp := h.hcap
      have hl64 : la ≤ 64 := by omega
      have hne : ((la : Int) == 0) = false := by simp; omega
      unfold maxLen at hm
      clear e1 e2 hl hl2
      have hown := Own.empty (w.alloc (.cells #[.bool false, .slice none 0 0] 28))
      have hb0 := (Below.refl (w.alloc (.cells #[.bool false, .slice none 0 0] 28)).heap.size (w.alloc (.cells #[.bool false, .slice none 0 0] 28))).alloc (Nat.le_refl _) (.cells #[] 44)
      have h1 := H.below hb0
      have hz : (w.alloc (.cells #[.bool false, .slice none 0 0] 28)).heap.size = w.heap.size + 1 := by simp
      rw [hz] at hown hb0
      go_enter Tryz.func55, Tryz.ntmps55
      go_wp2_with fail
      refine (refRight_any _ _ _ _ _ H).mono ?_
      rintro e w' ⟨rfl, rfl⟩
      rw [hr]
      go_wp2_with (at_builtin; refine wpList_appN _ rfl _ _ 26 rfl Tryz.underlying26 (w.heap.size + 1) _ [] rfl hown (some ⟨b, off, none⟩) la ca zs rfl h1 ?_ ?_ (w.alloc (.cells #[.bool false, .slice none 0 0] 28)) ?_ hb0 ?_)
      · intro e; cases e
      · have := h.hlen; simp; omega
      · simp
      · intro v' w2 hown1 hb1
        obtain ⟨a1, n1, cap1, rfl, hn1, hfr⟩ := hown1.fresh hd
        rw [← hz] at hb1
        obtain ⟨⟨c0, c1⟩, f0, f1⟩ := held2 hb1
        have hn2 := hn1.put2 c0 c1 (.bool n) (.slice a1 n1 cap1)
        have hBB := ((hB.trans (hb1.mono hB.size)).setCell (p := ⟨w.heap.size, 0, none⟩) (Nat.le_refl _) (.bool n)).setCell (p := ⟨w.heap.size, 1, none⟩) (Nat.le_refl _) (.slice a1 n1 cap1)
        clear hown1 hown h1 hb0 hn1 hfr H hB hb1
        go_wp2_with fail
        exact bodyPost_ret (v := .agg #[.bool n, .slice a1 n1 cap1]) (by simp [results, Tryz.results55, go_sem, c0, c1]) rfl ⟨_, _, _, rfl, hn2, hBB⟩
theorem balloc (w : World) (o : Obj) : Below w.heap.size w (w.alloc o) := (Below.refl _ _).alloc (Nat.le_refl _) o
theorem bthen {a b c : World} (h : Below a.heap.size a b) (h' : Below b.heap.size b c) : Below a.heap.size a c := h.trans (h'.mono h.size)
end Go.Proofs.YtchmlfjjgehbkaaGreat

namespace Go.Proofs.YtchmlfjjgehbkaaGreat
open Go.RowKit

/-- The size of a whole number. -/
def sz (n : Int) : Int := if n < 0 then -n else n

theorem ofZ_right (k : Int) : rightB (ofZ k) = true := by
  unfold ofZ
  split
  · rfl
  · rename_i h; simp [rightB, h]
theorem fromL_of (k : Int) : fromL (ofZ k) = ofZ k := by simp [fromL, ofZ_right]
theorem ofZ_len (k : Int) : decide (0 < (ofZ k).length) = decide (k ≠ 0) := by
  unfold ofZ
  split
  · rename_i h; simp [h]
  · rename_i h; simp [h]
theorem wrapU (z : Int) : IntKind.u64.wrap z = z % 18446744073709551616 := by simp [IntKind.wrap, IntKind.signed, IntKind.bits]
theorem neg_wrap {n : Int} (h : n < 0) (h1 : -9223372036854775808 ≤ n) : IntKind.u64.wrap (-IntKind.u64.wrap n) = -n := by
  rw [wrapU, wrapU]; omega

set_option maxHeartbeats 400000 in
theorem iof_any (n : Int) (w : World) (hn : -9223372036854775808 ≤ n ∧ n < 9223372036854775808) :
    Calls Tryz.prog 71 #[.int .i64 n] w fun e w' => ∃ a' n' c', e = .returned (.agg #[.bool (decide (n < 0)), .slice a' n' c']) ∧ Nums w' a' n' c' (ofZ (sz n)) ∧ Below w.heap.size w w' := by
  obtain ⟨h1, h2⟩ := hn
  have hB := (Below.refl w.heap.size w).alloc (Nat.le_refl _) (.cells #[.bool false, .slice none 0 0] 28)
  by_cases h0 : n < 0
  · have e1 : decide (n < 0) = true := by simp [h0]
    have e2 : sz n = -n := by simp [sz, h0]
    rw [e1, e2]
    have HW := (show Hid (IntKind.u64.wrap (-IntKind.u64.wrap n) = -n) from neg_wrap h0 h1)
    have HT : Hid ((true && decide (0 < (ofZ (-n)).length)) = true) := by show _ = _; rw [ofZ_len]; simp; omega
    clear e2
    go_enter Tryz.func71, Tryz.ntmps71
    go_wp2_with fail
    rw [HW.out]
    refine (of_any (-n) _ (by omega)).mono ?_
    rintro e w1 ⟨a', n', c', rfl, hn, hb1⟩
    go_wp2_with fail
    refine (signed_any _ _ _ _ _ _ hn).mono ?_
    rintro e w2 ⟨rfl, hb2⟩
    rw [HT.out]
    have hb12 := hb1.trans (hb2.mono hb1.size)
    obtain ⟨⟨c0, c1⟩, f0, f1⟩ := held2 hb12
    have hn2 := (hn.below hb2).put2 c0 c1 (.bool true) (.slice a' n' c')
    have hBB := ((hB.trans (hb12.mono hB.size)).setCell (p := ⟨w.heap.size, 0, none⟩) (Nat.le_refl _) (.bool true)).setCell (p := ⟨w.heap.size, 1, none⟩) (Nat.le_refl _) (.slice a' n' c')
    clear hn hb1 hb2 hb12 hB
    go_wp2_with fail
    exact bodyPost_ret (v := .agg #[.bool true, .slice a' n' c']) (by simp [results, Tryz.results71, go_sem, c0, c1]) rfl ⟨_, _, _, rfl, hn2, hBB⟩
  · have e1 : decide (n < 0) = false := by simp [h0]
    have e2 : sz n = n := by simp [sz, h0]
    rw [e1, e2]
    clear e2
    go_enter Tryz.func71, Tryz.ntmps71
    go_wp2_with fail
    refine (of_any n _ (by omega)).mono ?_
    rintro e w1 ⟨a', n', c', rfl, hn, hb1⟩
    go_wp2_with fail
    refine (signed_any _ _ _ _ _ _ hn).mono ?_
    rintro e w2 ⟨rfl, hb2⟩
    rw [Bool.false_and]
    have hb12 := hb1.trans (hb2.mono hb1.size)
    obtain ⟨⟨c0, c1⟩, f0, f1⟩ := held2 hb12
    have hn2 := (hn.below hb2).put2 c0 c1 (.bool false) (.slice a' n' c')
    have hBB := ((hB.trans (hb12.mono hB.size)).setCell (p := ⟨w.heap.size, 0, none⟩) (Nat.le_refl _) (.bool false)).setCell (p := ⟨w.heap.size, 1, none⟩) (Nat.le_refl _) (.slice a' n' c')
    clear hn hb1 hb2 hb12 hB
    go_wp2_with fail
    exact bodyPost_ret (v := .agg #[.bool false, .slice a' n' c']) (by simp [results, Tryz.results71, go_sem, c0, c1]) rfl ⟨_, _, _, rfl, hn2, hBB⟩

set_option maxHeartbeats 400000 in
theorem refIOf_any (n : Int) (w : World) (hn : -9223372036854775808 ≤ n ∧ n < 9223372036854775808) :
    Calls Tryz.prog 31 #[.int .i64 n] w fun e w' => ∃ a' n' c', e = .returned (.agg #[.bool (decide (n < 0)), .slice a' n' c']) ∧ Nums w' a' n' c' (ofZ (sz n)) ∧ Below w.heap.size w w' := by
  obtain ⟨h1, h2⟩ := hn
  have hB := (Below.refl w.heap.size w).alloc (Nat.le_refl _) (.cells #[.bool false, .slice none 0 0] 28)
  by_cases h0 : n < 0
  · have e1 : decide (n < 0) = true := by simp [h0]
    have e2 : sz n = -n := by simp [sz, h0]
    rw [e1, e2]
    have HW := (show Hid (-(n + 1) + 1 = -n) from (by omega : -(n + 1) + 1 = -n))
    have HT : Hid (fromN true (ofZ (-n)) = true) := by show _ = _; rw [fromN, fromL_of, ofZ_len]; simp; omega
    clear e2
    go_enter Tryz.func31, Tryz.ntmps31
    go_wp2_with fail
    rw [HW.out]
    refine (refOf_any (-n) _ (by omega)).mono ?_
    rintro e w1 ⟨a1, n1, c1, rfl, hn, hb1⟩
    go_wp2_with fail
    refine (refFrom_any _ _ _ _ _ _ hn).mono ?_
    rintro e w2 ⟨a', n', c', rfl, hn', hb2⟩
    rw [HT.out]
    rw [fromL_of] at hn'
    have hb12 := hb1.trans (hb2.mono hb1.size)
    obtain ⟨⟨c0, c1⟩, f0, f1⟩ := held2 hb12
    have hn2 := hn'.put2 c0 c1 (.bool true) (.slice a' n' c')
    have hBB := ((hB.trans (hb12.mono hB.size)).setCell (p := ⟨w.heap.size, 0, none⟩) (Nat.le_refl _) (.bool true)).setCell (p := ⟨w.heap.size, 1, none⟩) (Nat.le_refl _) (.slice a' n' c')
    clear hn hn' hb1 hb2 hb12 hB
    go_wp2_with fail
    exact bodyPost_ret (v := .agg #[.bool true, .slice a' n' c']) (by simp [results, Tryz.results31, go_sem, c0, c1]) rfl ⟨_, _, _, rfl, hn2, hBB⟩
  · have e1 : decide (n < 0) = false := by simp [h0]
    have e2 : sz n = n := by simp [sz, h0]
    rw [e1, e2]
    clear e2
    go_enter Tryz.func31, Tryz.ntmps31
    go_wp2_with fail
    refine (refOf_any n _ (by omega)).mono ?_
    rintro e w1 ⟨a1, n1, c1, rfl, hn, hb1⟩
    go_wp2_with fail
    refine (refFrom_any _ _ _ _ _ _ hn).mono ?_
    rintro e w2 ⟨a', n', c', rfl, hn', hb2⟩
    rw [show fromN false (ofZ n) = false by simp [fromN]]
    rw [fromL_of] at hn'
    have hb12 := hb1.trans (hb2.mono hb1.size)
    obtain ⟨⟨c0, c1⟩, f0, f1⟩ := held2 hb12
    have hn2 := hn'.put2 c0 c1 (.bool false) (.slice a' n' c')
    have hBB := ((hB.trans (hb12.mono hB.size)).setCell (p := ⟨w.heap.size, 0, none⟩) (Nat.le_refl _) (.bool false)).setCell (p := ⟨w.heap.size, 1, none⟩) (Nat.le_refl _) (.slice a' n' c')
    clear hn hn' hb1 hb2 hb12 hB
    go_wp2_with fail
    exact bodyPost_ret (v := .agg #[.bool false, .slice a' n' c']) (by simp [results, Tryz.results31, go_sem, c0, c1]) rfl ⟨_, _, _, rfl, hn2, hBB⟩

/-- The opposite one's limbs and sign. -/
def negL (n : Bool) (zs : List Int) : List Int := if rightI n zs then zs else []
def negN (n : Bool) (zs : List Int) : Bool := rightI n zs && (!n && decide (0 < zs.length))

theorem rightI_B {n : Bool} {zs : List Int} (h : rightI n zs = true) : rightB zs = true := by
  simp [rightI] at h; exact h.1

set_option maxHeartbeats 400000 in
theorem ineg_any (n : Bool) (a : Option Addr) (la ca : Nat) (zs : List Int) (w : World) (h : Nums w a la ca zs) :
    Calls Tryz.prog 67 #[.agg #[.bool n, .slice a la ca]] w fun e w' => ∃ a' n' c', e = .returned (.agg #[.bool (negN n zs), .slice a' n' c']) ∧ Nums w' a' n' c' (negL n zs) ∧ Below w.heap.size w w' := by
  have hB := ((Below.refl w.heap.size w).alloc (Nat.le_refl _) (.cells #[.bool n, .slice a la ca] 28)).alloc (by simp) (.cells #[.bool false, .slice none 0 0] 28)
  have H := h.below hB
  cases hr : rightI n zs with
  | false =>
    have e1 : negL n zs = [] := by simp [negL, hr]
    have e2 : negN n zs = false := by simp [negN, hr]
    rw [e1, e2]
    clear e1 e2
    go_enter Tryz.func67, Tryz.ntmps67
    go_wp2_with fail
    refine (iright_any _ _ _ _ _ _ H).mono ?_
    rintro e w1 ⟨rfl, hb1⟩
    rw [hr]
    obtain ⟨⟨c0, c1⟩, ⟨d0, d1⟩, -, f0, f1⟩ := held22 hb1
    have hBB := ((hB.trans (hb1.mono hB.size)).setCell (p := ⟨w.heap.size + 1, 0, none⟩) (by simp) (.bool false)).setCell (p := ⟨w.heap.size + 1, 1, none⟩) (by simp) (.slice none 0 0)
    clear hB hb1 H
    go_wp2_with fail
    exact bodyPost_ret (v := .agg #[.bool false, .slice none 0 0]) (by simp [results, Tryz.results67, go_sem, d0, d1]) rfl ⟨_, _, _, rfl, Nums.nil _, hBB⟩
  | true =>
    have e1 : negL n zs = fromL zs := by simp [negL, hr, fromL, rightI_B hr]
    have e2 : negN n zs = fromN (!n) zs := by simp [negN, hr, fromN, fromL, rightI_B hr]
    rw [e1, e2]
    obtain ⟨q, hq⟩ : ∃ q, q = fromN (!n) zs := ⟨_, rfl⟩
    rw [← hq]
    have HQ : Hid (q = fromN (!n) zs) := hq
    clear hq e1 e2
    go_enter Tryz.func67, Tryz.ntmps67
    go_wp2_with fail
    refine (iright_any _ _ _ _ _ _ H).mono ?_
    rintro e w1 ⟨rfl, hb1⟩
    rw [hr]
    obtain ⟨⟨c0, c1⟩, ⟨d0, d1⟩, -, f0, f1⟩ := held22 hb1
    have H1 := H.below hb1
    go_wp2_with fail
    refine (from_any _ _ _ _ _ _ H1).mono ?_
    rintro e w2 ⟨a', n', c', rfl, hn', hb2⟩
    rw [← HQ.out]
    have hb12 := hb1.trans (hb2.mono hb1.size)
    clear c0 c1 d0 d1 f0 f1
    obtain ⟨⟨c0, c1⟩, ⟨d0, d1⟩, -, f0, f1⟩ := held22 hb12
    have hn2 := hn'.put2 d0 d1 (.bool q) (.slice a' n' c')
    have hBB := ((hB.trans (hb12.mono hB.size)).setCell (p := ⟨w.heap.size + 1, 0, none⟩) (by simp) (.bool q)).setCell (p := ⟨w.heap.size + 1, 1, none⟩) (by simp) (.slice a' n' c')
    clear hn' hb1 hb2 hb12 hB H H1
    go_wp2_with fail
    exact bodyPost_ret (v := .agg #[.bool q, .slice a' n' c']) (by simp [results, Tryz.results67, go_sem, d0, d1]) rfl ⟨_, _, _, rfl, hn2, hBB⟩

set_option maxHeartbeats 400000 in
theorem refINeg_any (n : Bool) (a : Option Addr) (la ca : Nat) (zs : List Int) (w : World) (h : Nums w a la ca zs) :
    Calls Tryz.prog 49 #[.agg #[.bool n, .slice a la ca]] w fun e w' => ∃ a' n' c', e = .returned (.agg #[.bool (negN n zs), .slice a' n' c']) ∧ Nums w' a' n' c' (negL n zs) ∧ Below w.heap.size w w' := by
  have hB := ((Below.refl w.heap.size w).alloc (Nat.le_refl _) (.cells #[.bool n, .slice a la ca] 28)).alloc (by simp) (.cells #[.bool false, .slice none 0 0] 28)
  have H := h.below hB
  cases hr : rightI n zs with
  | false =>
    have e1 : negL n zs = [] := by simp [negL, hr]
    have e2 : negN n zs = false := by simp [negN, hr]
    rw [e1, e2]
    clear e1 e2
    go_enter Tryz.func49, Tryz.ntmps49
    go_wp2_with fail
    refine (refIRight_any _ _ _ _ _ _ H).mono ?_
    rintro e w1 ⟨rfl, hb1⟩
    rw [hr]
    obtain ⟨⟨c0, c1⟩, ⟨d0, d1⟩, -, f0, f1⟩ := held22 hb1
    have hBB := ((hB.trans (hb1.mono hB.size)).setCell (p := ⟨w.heap.size + 1, 0, none⟩) (by simp) (.bool false)).setCell (p := ⟨w.heap.size + 1, 1, none⟩) (by simp) (.slice none 0 0)
    clear hB hb1 H
    go_wp2_with fail
    exact bodyPost_ret (v := .agg #[.bool false, .slice none 0 0]) (by simp [results, Tryz.results49, go_sem, d0, d1]) rfl ⟨_, _, _, rfl, Nums.nil _, hBB⟩
  | true =>
    have e1 : negL n zs = fromL zs := by simp [negL, hr, fromL, rightI_B hr]
    have e2 : negN n zs = fromN (!n) zs := by simp [negN, hr, fromN, fromL, rightI_B hr]
    rw [e1, e2]
    obtain ⟨q, hq⟩ : ∃ q, q = fromN (!n) zs := ⟨_, rfl⟩
    rw [← hq]
    have HQ : Hid (q = fromN (!n) zs) := hq
    clear hq e1 e2
    go_enter Tryz.func49, Tryz.ntmps49
    go_wp2_with fail
    refine (refIRight_any _ _ _ _ _ _ H).mono ?_
    rintro e w1 ⟨rfl, hb1⟩
    rw [hr]
    obtain ⟨⟨c0, c1⟩, ⟨d0, d1⟩, -, f0, f1⟩ := held22 hb1
    have H1 := H.below hb1
    go_wp2_with fail
    refine (refFrom_any _ _ _ _ _ _ H1).mono ?_
    rintro e w2 ⟨a', n', c', rfl, hn', hb2⟩
    rw [← HQ.out]
    have hb12 := hb1.trans (hb2.mono hb1.size)
    clear c0 c1 d0 d1 f0 f1
    obtain ⟨⟨c0, c1⟩, ⟨d0, d1⟩, -, f0, f1⟩ := held22 hb12
    have hn2 := hn'.put2 d0 d1 (.bool q) (.slice a' n' c')
    have hBB := ((hB.trans (hb12.mono hB.size)).setCell (p := ⟨w.heap.size + 1, 0, none⟩) (by simp) (.bool q)).setCell (p := ⟨w.heap.size + 1, 1, none⟩) (by simp) (.slice a' n' c')
    clear hn' hb1 hb2 hb12 hB H H1
    go_wp2_with fail
    exact bodyPost_ret (v := .agg #[.bool q, .slice a' n' c']) (by simp [results, Tryz.results49, go_sem, d0, d1]) rfl ⟨_, _, _, rfl, hn2, hBB⟩


/-- Which one is the greater one. -/
def cmpI (n : Bool) (zs : List Int) (m : Bool) (ys : List Int) : Int :=
  if rightI n zs && rightI m ys then (if n then (if m then cmpN ys zs else -1) else if m then 1 else cmpN zs ys) else 0

set_option maxHeartbeats 1000000 in
theorem icmp_any (n m : Bool) (a b : Option Addr) (la ca lb cb : Nat) (zs ys : List Int) (w : World) (h : Nums w a la ca zs) (h' : Nums w b lb cb ys) :
    Calls Tryz.prog 50 #[.agg #[.bool n, .slice a la ca], .agg #[.bool m, .slice b lb cb]] w fun e w' => e = .returned (.int .i64 (cmpI n zs m ys)) ∧ Below w.heap.size w w' := by
  have hB := ((Below.refl w.heap.size w).alloc (Nat.le_refl _) (.cells #[.bool n, .slice a la ca] 28)).alloc (by simp) (.cells #[.bool m, .slice b lb cb] 28)
  have H := h.below hB
  have H' := h'.below hB
  cases hr : rightI n zs with
  | false =>
    have e1 : cmpI n zs m ys = 0 := by simp [cmpI, hr]
    rw [e1]
    go_enter Tryz.func50, Tryz.ntmps50
    go_wp2_with fail
    refine (iright_any _ _ _ _ _ _ H).mono ?_
    rintro e w1 ⟨rfl, hb1⟩
    rw [hr]
    have hBB := hB.trans (hb1.mono hB.size)
    clear hB hb1 H H'
    go_wp2_with fail
    go_ret
    exact ⟨rfl, hBB⟩
  | true =>
  cases hr' : rightI m ys with
  | false =>
    have e1 : cmpI n zs m ys = 0 := by simp [cmpI, hr']
    rw [e1]
    go_enter Tryz.func50, Tryz.ntmps50
    go_wp2_with fail
    refine (iright_any _ _ _ _ _ _ H).mono ?_
    rintro e w1 ⟨rfl, hb1⟩
    rw [hr]
    obtain ⟨⟨c0, c1⟩, ⟨d0, d1⟩, -, -⟩ := held22 hb1
    go_wp2_with fail
    refine (iright_any _ _ _ _ _ _ (H'.below hb1)).mono ?_
    rintro e w2 ⟨rfl, hb2⟩
    rw [hr']
    have hb12 := hb1.trans (hb2.mono hb1.size)
    have hBB := hB.trans (hb12.mono hB.size)
    clear hB hb1 hb2 hb12 H H'
    go_wp2_with fail
    go_ret
    exact ⟨rfl, hBB⟩
  | true =>
    have HC : Hid (cmpI n zs m ys = (if n then (if m then cmpN ys zs else -1) else if m then 1 else cmpN zs ys)) := by show _ = _; simp [cmpI, hr, hr']
    rw [HC.out]
    clear HC
    go_enter Tryz.func50, Tryz.ntmps50
    go_wp2_with fail
    refine (iright_any _ _ _ _ _ _ H).mono ?_
    rintro e w1 ⟨rfl, hb1⟩
    rw [hr]
    obtain ⟨⟨c0, c1⟩, ⟨d0, d1⟩, -, -⟩ := held22 hb1
    go_wp2_with fail
    refine (iright_any _ _ _ _ _ _ (H'.below hb1)).mono ?_
    rintro e w2 ⟨rfl, hb2⟩
    rw [hr']
    have hb12 := hb1.trans (hb2.mono hb1.size)
    clear c0 c1 d0 d1
    obtain ⟨⟨c0, c1⟩, ⟨d0, d1⟩, -, -⟩ := held22 hb12
    have K := H.below hb12
    have K' := H'.below hb12
    have hBB := hB.trans (hb12.mono hB.size)
    clear hB hb1 hb2 hb12 H H' hr hr'
    cases n <;> cases m
    · go_wp2_with fail
      refine (cmp_any _ _ _ _ _ _ _ _ _ K K').mono ?_
      rintro e w3 ⟨rfl, hb3⟩
      have hB3 := hBB.trans (hb3.mono hBB.size)
      go_wp2_with fail
      go_ret
      exact ⟨rfl, hB3⟩
    · go_wp2_with fail
      go_ret
      exact ⟨rfl, hBB⟩
    · go_wp2_with fail
      go_ret
      exact ⟨rfl, hBB⟩
    · go_wp2_with fail
      refine (cmp_any _ _ _ _ _ _ _ _ _ K' K).mono ?_
      rintro e w3 ⟨rfl, hb3⟩
      have hB3 := hBB.trans (hb3.mono hBB.size)
      go_wp2_with fail
      go_ret
      exact ⟨rfl, hB3⟩

set_option maxHeartbeats 1000000 in
theorem refICmp_any (n m : Bool) (a b : Option Addr) (la ca lb cb : Nat) (zs ys : List Int) (w : World) (h : Nums w a la ca zs) (h' : Nums w b lb cb ys) :
    Calls Tryz.prog 57 #[.agg #[.bool n, .slice a la ca], .agg #[.bool m, .slice b lb cb]] w fun e w' => e = .returned (.int .i64 (cmpI n zs m ys)) ∧ Below w.heap.size w w' := by
  have hB := ((Below.refl w.heap.size w).alloc (Nat.le_refl _) (.cells #[.bool n, .slice a la ca] 28)).alloc (by simp) (.cells #[.bool m, .slice b lb cb] 28)
  have H := h.below hB
  have H' := h'.below hB
  by_cases hrr : rightI n zs = false ∨ rightI m ys = false
  · have e1 : cmpI n zs m ys = 0 := by rcases hrr with hr | hr <;> simp [cmpI, hr]
    rw [e1]
    clear e1
    go_enter Tryz.func57, Tryz.ntmps57
    go_wp2_with fail
    refine (refIRight_any _ _ _ _ _ _ H).mono ?_
    rintro e w1 ⟨rfl, hb1⟩
    obtain ⟨⟨c0, c1⟩, ⟨d0, d1⟩, -, -⟩ := held22 hb1
    go_wp2_with fail
    refine (refIRight_any _ _ _ _ _ _ (H'.below hb1)).mono ?_
    rintro e w2 ⟨rfl, hb2⟩
    have hb12 := hb1.trans (hb2.mono hb1.size)
    have hBB := hB.trans (hb12.mono hB.size)
    clear hB hb1 hb2 hb12 H H' c0 c1 d0 d1
    cases hr : rightI n zs with
    | false =>
      clear hrr
      go_wp2_with fail
      go_ret
      exact ⟨rfl, hBB⟩
    | true =>
      cases hr' : rightI m ys with
      | false =>
        clear hrr
        go_wp2_with fail
        go_ret
        exact ⟨rfl, hBB⟩
      | true => simp [hr, hr'] at hrr
  · have hr : rightI n zs = true := by cases e : rightI n zs with | true => rfl | false => exact absurd (.inl e) hrr
    have hr' : rightI m ys = true := by cases e : rightI m ys with | true => rfl | false => exact absurd (.inr e) hrr
    have HC : Hid (cmpI n zs m ys = (if n then (if m then cmpN ys zs else -1) else if m then 1 else cmpN zs ys)) := by show _ = _; simp [cmpI, hr, hr']
    rw [HC.out]
    clear HC hrr
    go_enter Tryz.func57, Tryz.ntmps57
    go_wp2_with fail
    refine (refIRight_any _ _ _ _ _ _ H).mono ?_
    rintro e w1 ⟨rfl, hb1⟩
    rw [hr]
    obtain ⟨⟨c0, c1⟩, ⟨d0, d1⟩, -, -⟩ := held22 hb1
    go_wp2_with fail
    refine (refIRight_any _ _ _ _ _ _ (H'.below hb1)).mono ?_
    rintro e w2 ⟨rfl, hb2⟩
    rw [hr']
    have hb12 := hb1.trans (hb2.mono hb1.size)
    clear c0 c1 d0 d1
    obtain ⟨⟨c0, c1⟩, ⟨d0, d1⟩, -, -⟩ := held22 hb12
    have K := H.below hb12
    have K' := H'.below hb12
    have hBB := hB.trans (hb12.mono hB.size)
    clear hB hb1 hb2 hb12 H H' hr hr'
    cases n <;> cases m
    · go_wp2_with fail
      refine (refCmp_any _ _ _ _ _ _ _ _ _ K K').mono ?_
      rintro e w3 ⟨rfl, hb3⟩
      have hB3 := hBB.trans (hb3.mono hBB.size)
      go_wp2_with fail
      go_ret
      exact ⟨rfl, hB3⟩
    · go_wp2_with fail
      go_ret
      exact ⟨rfl, hBB⟩
    · go_wp2_with fail
      go_ret
      exact ⟨rfl, hBB⟩
    · go_wp2_with fail
      refine (refCmp_any _ _ _ _ _ _ _ _ _ K' K).mono ?_
      rintro e w3 ⟨rfl, hb3⟩
      have hB3 := hBB.trans (hb3.mono hBB.size)
      go_wp2_with fail
      go_ret
      exact ⟨rfl, hB3⟩

/-- A whole number as a small one. -/
def ismB (n : Bool) (zs : List Int) : Bool := rightI n zs && (decide (zs.length ≤ 1) && (if n then decide (smallZ zs ≤ 9223372036854775808) else decide (smallZ zs < 9223372036854775808)))
def ismZ (n : Bool) (zs : List Int) : Int := if ismB n zs then (if n then - smallZ zs else smallZ zs) else 0

theorem neg_small {x : Int} (h : 1 ≤ x) (h1 : x ≤ 9223372036854775808) : wrap64 (IntKind.u64.wrap (-x)) = -x := by
  rw [wrapU]
  unfold RowKit.wrap64
  omega

theorem smallZ_bd {w : World} {a : Option Addr} {la ca : Nat} {zs : List Int} (h : Nums w a la ca zs) : 0 ≤ smallZ zs ∧ smallZ zs < 18446744073709551616 := by
  unfold smallZ
  split
  · exact h.digs.getD (by decide) 0
  · omega
theorem smallZ_pos {w : World} {a : Option Addr} {la ca : Nat} {zs : List Int} (h : Nums w a la ca zs) (hr : rightI true zs = true) (hs : smallB zs = true) : 1 ≤ smallZ zs := by
  have hb := smallZ_bd h
  simp only [rightI, Bool.and_eq_true, Bool.true_and, Bool.not_eq_true', decide_eq_false_iff_not] at hr
  simp only [smallB, Bool.and_eq_true, decide_eq_true_eq] at hs
  have hl : zs.length = 1 := by omega
  have hr1 := hr.1
  simp only [rightB, hl, Bool.and_eq_true] at hr1
  have hz : smallZ zs = zs.getD 0 0 := by unfold smallZ; rw [if_pos (by simp [hs.1, hl])]
  have : zs.getD 0 0 ≠ 0 := by simpa using hr1.2
  omega

end Go.Proofs.YtchmlfjjgehbkaaGreat

namespace Go.Proofs.YtchmlfjjgehbkaaGreat
open Go.RowKit

/-- What is told of the whole number v: its size's limbs and its sign, or the error 4 where they are more than 64. -/
def ResW (v : Int) (neg : Bool) (ls : List Int) (err : Int) : Prop := Res (sz v) ls err ∧ neg = (decide (err = 0) && decide (v < 0))

theorem ResW.unique {v : Int} {p q : Bool} {ls ks : List Int} {e f : Int} (h : ResW v p ls e) (h' : ResW v q ks f) : p = q ∧ ls = ks ∧ e = f := by
  obtain ⟨h1, h2⟩ := h
  obtain ⟨h3, h4⟩ := h'
  obtain ⟨rfl, rfl⟩ := h1.unique h3
  exact ⟨h2.trans h4.symm, rfl, rfl⟩

theorem Res.right {u : Int} {ls : List Int} {e : Int} (h : Res u ls e) : rightB ls = true := by
  rcases h with ⟨_, _, ht, hl, _⟩ | ⟨_, rfl, _⟩
  · exact right_mk hl ht
  · rfl

theorem val_zero_iff {ls : List Int} (hd : Digs 18446744073709551616 ls) (ht : Top ls) : 0 < val 18446744073709551616 ls ↔ 0 < ls.length := by
  constructor
  · intro h
    cases ls with
    | nil => simp [val] at h
    | cons x r => simp
  · intro h
    have h1 := val_ge (B := 18446744073709551616) (by decide) hd ht (by intro e; subst e; simp at h)
    have h2 := pow_pos' (B := 18446744073709551616) (by decide) (ls.length - 1)
    omega

/-- A size with a sign: 0 has none. -/
theorem Res.signed {u : Int} {ls : List Int} {e : Int} (h : Res u ls e) (n : Bool) : ResW (if n then -u else u) (n && decide (0 < ls.length)) ls e := by
  have hu : 0 ≤ u := by
    rcases h with ⟨_, hd, _, _, rfl⟩ | ⟨_, _, zs, hd, _, rfl, _⟩
    · exact val_nonneg (by decide) hd
    · exact val_nonneg (by decide) hd
  have es : sz (if n then -u else u) = u := by
    unfold sz
    cases n
    · simp; omega
    · simp; omega
  refine ⟨by rw [es]; exact h, ?_⟩
  rcases h with ⟨rfl, hd, ht, _, hv⟩ | ⟨rfl, rfl, _⟩
  · have hz := val_zero_iff hd ht
    rw [hv] at hz
    cases n
    · simp; omega
    · simp only [Bool.true_and, if_true, decide_true]
      by_cases h0 : 0 < u
      · rw [decide_eq_true (hz.1 h0), decide_eq_true (by omega)]
      · rw [decide_eq_false (mt hz.2 h0), decide_eq_false (by omega)]
  · simp

theorem Res.from {u : Int} {ls : List Int} {e : Int} (h : Res u ls e) (n : Bool) : fromL ls = ls ∧ fromN n ls = (n && decide (0 < ls.length)) := by
  have hr := h.right
  have e1 : fromL ls = ls := by simp [fromL, hr]
  exact ⟨e1, by simp [fromN, e1]⟩

/-- What is told of two whole numbers: the error 1 where one of them may not be. -/
def Res2I (n : Bool) (zs : List Int) (m : Bool) (ys : List Int) (v : Int) (neg : Bool) (ls : List Int) (err : Int) : Prop :=
  if rightI n zs && rightI m ys then ResW v neg ls err else err = 1 ∧ neg = false ∧ ls = []

theorem Res2I.unique {n : Bool} {zs : List Int} {m : Bool} {ys : List Int} {v : Int} {p q : Bool} {ls ks : List Int} {e f : Int} (h : Res2I n zs m ys v p ls e) (h' : Res2I n zs m ys v q ks f) : p = q ∧ ls = ks ∧ e = f := by
  unfold Res2I at h h'
  split at h
  · rename_i hc
    rw [if_pos hc] at h'
    exact h.unique h'
  · rename_i hc
    rw [if_neg hc] at h'
    obtain ⟨rfl, rfl, rfl⟩ := h
    obtain ⟨rfl, rfl, rfl⟩ := h'
    exact ⟨rfl, rfl, rfl⟩

theorem Res2I.ok {n : Bool} {zs : List Int} {m : Bool} {ys : List Int} {v : Int} {p : Bool} {ls : List Int} {e : Int} (hn : rightI n zs = true) (hm : rightI m ys = true) (h : ResW v p ls e) : Res2I n zs m ys v p ls e := by
  unfold Res2I; rw [hn, hm]; exact h
theorem Res2I.got {n : Bool} {zs : List Int} {m : Bool} {ys : List Int} {v : Int} {p : Bool} {ls : List Int} {e : Int} (hn : rightI n zs = true) (hm : rightI m ys = true) (h : Res2I n zs m ys v p ls e) : ResW v p ls e := by
  unfold Res2I at h; rw [hn, hm] at h; exact h
theorem Res2I.bad {n : Bool} {zs : List Int} {m : Bool} {ys : List Int} (v : Int) (h : (rightI n zs && rightI m ys) = false) : Res2I n zs m ys v false [] 1 := by
  unfold Res2I; rw [h]; exact ⟨rfl, rfl, rfl⟩

theorem Res2.got {zs ys : List Int} {v : Int} {ls : List Int} {e : Int} (hn : rightB zs = true) (hm : rightB ys = true) (h : Res2 zs ys v ls e) : Res v ls e := by
  unfold Res2 at h; rw [hn, hm] at h; exact h

theorem val_64 {zs : List Int} (hd : Digs 18446744073709551616 zs) (hr : rightB zs = true) : val 18446744073709551616 zs < 18446744073709551616 ^ 64 := val_lt_pow (by decide) hd (right_len hr)

/-- The difference of two sizes, the first not below the second. -/
theorem ResSub.got {zs ys ls : List Int} {e : Int} (hz : Digs 18446744073709551616 zs) (hy : Digs 18446744073709551616 ys) (hn : rightB zs = true) (hm : rightB ys = true) (hle : val 18446744073709551616 ys ≤ val 18446744073709551616 zs) (h : ResSub zs ys ls e) :
    e = 0 ∧ Res (val 18446744073709551616 zs - val 18446744073709551616 ys) ls 0 := by
  unfold ResSub at h
  rw [hn, hm, if_pos (by rfl), if_neg (by omega)] at h
  have h1 := val_64 hz hn
  have h2 := val_nonneg (B := 18446744073709551616) (by decide) hy
  obtain ⟨rfl, _⟩ := res_fits h (by omega)
  exact ⟨rfl, h⟩

theorem cmpN_lt {zs ys : List Int} (hn : rightB zs = true) (hm : rightB ys = true) : cmpN zs ys < 0 ↔ val 18446744073709551616 zs < val 18446744073709551616 ys := by
  unfold cmpN
  rw [hn, hm, if_pos (by rfl)]
  unfold cmpZ
  split
  · constructor <;> intro <;> first | assumption | decide
  · split
    · constructor <;> intro <;> first | omega | contradiction
    · constructor <;> intro <;> first | omega | contradiction

/-- The sum of two whole numbers of which one is below 0 and the other is not. -/
theorem apart_ge {n m : Bool} {zs ys : List Int} (hne : n ≠ m) {ls : List Int} (h : Res (val 18446744073709551616 zs - val 18446744073709551616 ys) ls 0) : ResW (iv n zs + iv m ys) (n && decide (0 < ls.length)) ls 0 := by
  have := h.signed n
  have e : iv n zs + iv m ys = if n then -(val 18446744073709551616 zs - val 18446744073709551616 ys) else val 18446744073709551616 zs - val 18446744073709551616 ys := by
    unfold iv
    cases n <;> cases m <;> simp_all <;> omega
  rw [e]; exact this

theorem add_same {n : Bool} {zs ys : List Int} {ls : List Int} {e : Int} (h : Res (val 18446744073709551616 zs + val 18446744073709551616 ys) ls e) : ResW (iv n zs + iv n ys) (n && decide (0 < ls.length)) ls e := by
  have := h.signed n
  have e : iv n zs + iv n ys = if n then -(val 18446744073709551616 zs + val 18446744073709551616 ys) else val 18446744073709551616 zs + val 18446744073709551616 ys := by
    unfold iv
    cases n <;> simp <;> omega
  rw [e]; exact this

theorem mul_sign {n m : Bool} {zs ys : List Int} {ls : List Int} {e : Int} (h : Res (val 18446744073709551616 zs * val 18446744073709551616 ys) ls e) : ResW (iv n zs * iv m ys) (decide (n ≠ m) && decide (0 < ls.length)) ls e := by
  have := h.signed (decide (n ≠ m))
  have e : iv n zs * iv m ys = if decide (n ≠ m) then -(val 18446744073709551616 zs * val 18446744073709551616 ys) else val 18446744073709551616 zs * val 18446744073709551616 ys := by
    unfold iv
    cases n <;> cases m <;> simp [Int.neg_mul, Int.mul_neg]
  rw [e]; exact this

theorem neg_iv {n : Bool} {zs : List Int} (hr : rightI n zs = true) : iv (negN n zs) (negL n zs) = - iv n zs ∧ rightI (negN n zs) (negL n zs) = true := by
  have hb := rightI_B hr
  have e1 : negL n zs = zs := by simp [negL, hr]
  have e2 : negN n zs = (!n && decide (0 < zs.length)) := by simp [negN, hr]
  rw [e1, e2]
  by_cases h0 : zs.length = 0
  · have : zs = [] := List.eq_nil_of_length_eq_zero h0
    subst this
    cases n <;> simp [iv, val, rightI, hb]
  · cases n
    · simp [iv, rightI, hb, show 0 < zs.length by omega, h0]
    · simp [iv, rightI, hb]

theorem sub_of_add {n m : Bool} {zs ys : List Int} (hr : rightI m ys = true) {q : Bool} {ls : List Int} {e : Int} (h : Res2I n zs (negN m ys) (negL m ys) (iv n zs + iv (negN m ys) (negL m ys)) q ls e) : Res2I n zs m ys (iv n zs - iv m ys) q ls e := by
  obtain ⟨h1, h2⟩ := neg_iv hr
  rw [h1, ← Int.sub_eq_add_neg] at h
  unfold Res2I at h ⊢
  rw [h2] at h
  rw [hr]
  exact h
end Go.Proofs.YtchmlfjjgehbkaaGreat

namespace Go.Proofs.YtchmlfjjgehbkaaGreat
open Go.RowKit

/-- What is told of a quotient, rounded down, and a rest. -/
def ResFloor (n : Bool) (zs : List Int) (m : Bool) (ys : List Int) (p : Bool) (qs : List Int) (r : Bool) (rs : List Int) (err : Int) : Prop :=
  if rightI n zs && rightI m ys then
    (if ys.length = 0 then err = 3 ∧ (p = false ∧ qs = []) ∧ r = false ∧ rs = [] else if m then err = 1 ∧ (p = false ∧ qs = []) ∧ r = false ∧ rs = []
    else err = 0 ∧ ResW (iv n zs / val 18446744073709551616 ys) p qs 0 ∧ ResW (iv n zs % val 18446744073709551616 ys) r rs 0)
  else err = 1 ∧ (p = false ∧ qs = []) ∧ r = false ∧ rs = []

theorem ResFloor.unique {n : Bool} {zs : List Int} {m : Bool} {ys : List Int} {p p' : Bool} {qs qs' : List Int} {r r' : Bool} {rs rs' : List Int} {e e' : Int} (h : ResFloor n zs m ys p qs r rs e) (h' : ResFloor n zs m ys p' qs' r' rs' e') :
    (p = p' ∧ qs = qs') ∧ (r = r' ∧ rs = rs') ∧ e = e' := by
  unfold ResFloor at h h'
  split at h
  · rename_i hc
    rw [if_pos hc] at h'
    split at h
    · rename_i hc2
      rw [if_pos hc2] at h'
      obtain ⟨rfl, ⟨rfl, rfl⟩, rfl, rfl⟩ := h
      obtain ⟨rfl, ⟨rfl, rfl⟩, rfl, rfl⟩ := h'
      exact ⟨⟨rfl, rfl⟩, ⟨rfl, rfl⟩, rfl⟩
    · rename_i hc2
      rw [if_neg hc2] at h'
      split at h
      · rename_i hc3
        rw [if_pos hc3] at h'
        obtain ⟨rfl, ⟨rfl, rfl⟩, rfl, rfl⟩ := h
        obtain ⟨rfl, ⟨rfl, rfl⟩, rfl, rfl⟩ := h'
        exact ⟨⟨rfl, rfl⟩, ⟨rfl, rfl⟩, rfl⟩
      · rename_i hc3
        rw [if_neg hc3] at h'
        obtain ⟨rfl, h1, h2⟩ := h
        obtain ⟨rfl, h3, h4⟩ := h'
        have u1 := h1.unique h3
        have u2 := h2.unique h4
        exact ⟨⟨u1.1, u1.2.1⟩, ⟨u2.1, u2.2.1⟩, rfl⟩
  · rename_i hc
    rw [if_neg hc] at h'
    obtain ⟨rfl, ⟨rfl, rfl⟩, rfl, rfl⟩ := h
    obtain ⟨rfl, ⟨rfl, rfl⟩, rfl, rfl⟩ := h'
    exact ⟨⟨rfl, rfl⟩, ⟨rfl, rfl⟩, rfl⟩

theorem ResFloor.bad {n : Bool} {zs : List Int} {m : Bool} {ys : List Int} (h : (rightI n zs && rightI m ys) = false ∨ m = true) : ResFloor n zs m ys false [] false [] 1 := by
  unfold ResFloor
  split
  · rename_i hc
    rcases h with h | h
    · rw [h] at hc; cases hc
    · subst h
      split
      · rename_i h0
        simp only [Bool.and_eq_true] at hc
        have := hc.2
        simp [rightI, h0] at this
      · exact ⟨rfl, ⟨rfl, rfl⟩, rfl, rfl⟩
  · exact ⟨rfl, ⟨rfl, rfl⟩, rfl, rfl⟩

theorem ResFloor.zero {n : Bool} {zs : List Int} {m : Bool} {ys : List Int} (h : (rightI n zs && rightI m ys) = true) (h0 : ys.length = 0) : ResFloor n zs m ys false [] false [] 3 := by
  unfold ResFloor
  rw [h, if_pos rfl, if_pos h0]
  exact ⟨rfl, ⟨rfl, rfl⟩, rfl, rfl⟩

theorem ResDiv.parts {zs ys qs rs : List Int} {err : Int} (hz : rightB zs = true) (hy : rightB ys = true) (h0 : ys.length ≠ 0) (h : ResDiv zs ys qs rs err) : err = 0 ∧ (rightB qs = true ∧ rightB rs = true) ∧ (Digs 18446744073709551616 qs ∧ Digs 18446744073709551616 rs) ∧ val 18446744073709551616 qs = val 18446744073709551616 zs / val 18446744073709551616 ys ∧ val 18446744073709551616 rs = val 18446744073709551616 zs % val 18446744073709551616 ys := by
  unfold ResDiv at h
  rw [hz, hy, if_pos (by rfl), if_neg h0] at h
  exact ⟨h.1, ⟨h.2.2.2.1, h.2.2.2.2.1⟩, ⟨h.2.1, h.2.2.1⟩, h.2.2.2.2.2⟩

theorem right_from {ls : List Int} (h : rightB ls = true) (n : Bool) : fromL ls = ls ∧ fromN n ls = (n && decide (0 < ls.length)) := by
  have e1 : fromL ls = ls := by simp [fromL, h]
  exact ⟨e1, by simp [fromN, e1]⟩

theorem res_of {v : Int} {ls : List Int} (hd : Digs 18446744073709551616 ls) (hr : rightB ls = true) (hv : val 18446744073709551616 ls = v) : Res v ls 0 := .inl ⟨rfl, hd, right_top hr, right_len hr, hv⟩

theorem ediv_neg_exact {v b : Int} (h : v % b = 0) : -v / b = -(v / b) ∧ -v % b = 0 := by
  constructor
  · rw [Int.neg_ediv_of_dvd (Int.dvd_of_emod_eq_zero h)]
  · exact Int.emod_eq_zero_of_dvd ((Int.dvd_neg).2 (Int.dvd_of_emod_eq_zero h))

theorem ediv_neg_more {v b : Int} (hb : 0 < b) (h : 0 < v % b) : -v / b = -(v / b + 1) ∧ -v % b = b - v % b := by
  have e := Int.mul_ediv_add_emod v b
  have hlt := Int.emod_lt_of_pos v hb
  have e2 : -v = (b - v % b) + b * (-(v / b + 1)) := by
    have : b * (-(v / b + 1)) = -(b * (v / b)) - b := by rw [Int.mul_neg, Int.mul_add]; omega
    rw [this]; omega
  constructor
  · rw [e2, Int.add_mul_ediv_left _ _ (by omega), Int.ediv_eq_zero_of_lt (by omega) (by omega)]; omega
  · rw [e2, Int.add_mul_emod_self_left, Int.emod_eq_of_lt (by omega) (by omega)]

/-- The quotient and the rest of the sizes serve as they are. -/
theorem floor_direct {n : Bool} {zs ys qs rs : List Int} {err : Int} (hr : rightI n zs = true) (hr' : rightI false ys = true) (h : ResDiv zs ys qs rs err) (hc : n = false ∨ rs.length = 0) :
    ResFloor n zs false ys (n && decide (0 < qs.length)) qs false rs err := by
  have hb := rightI_B hr
  have hb' := rightI_B hr'
  unfold ResDiv at h
  rw [hb, hb', if_pos (by rfl)] at h
  unfold ResFloor
  rw [hr, hr', if_pos (by rfl)]
  split at h
  · rename_i h0
    rw [if_pos h0]
    obtain ⟨rfl, rfl, rfl⟩ := h
    exact ⟨rfl, ⟨by simp, rfl⟩, rfl, rfl⟩
  · rename_i h0
    rw [if_neg h0, if_neg (by simp)]
    obtain ⟨rfl, d1, d2, r1, r2, v1, v2⟩ := h
    have q1 := (res_of d1 r1 v1).signed n
    have q2 := (res_of d2 r2 v2).signed false
    rw [Bool.false_and] at q2
    cases n with
    | false => exact ⟨rfl, q1, q2⟩
    | true =>
      have hz : rs.length = 0 := by rcases hc with hc | hc; cases hc; exact hc
      have hrs : rs = [] := List.eq_nil_of_length_eq_zero hz
      subst hrs
      have v0 : val 18446744073709551616 zs % val 18446744073709551616 ys = 0 := by rw [← v2]; rfl
      obtain ⟨e1, e2⟩ := ediv_neg_exact v0
      refine ⟨rfl, ?_, ?_⟩
      · show ResW (-val 18446744073709551616 zs / val 18446744073709551616 ys) _ _ _
        rw [e1]; exact q1
      · show ResW (-val 18446744073709551616 zs % val 18446744073709551616 ys) _ _ _
        rw [e2]; rw [v0] at q2; exact q2

/-- One further. -/
theorem floor_further {zs ys qs rs : List Int} {err : Int} (hr : rightI true zs = true) (hr' : rightI false ys = true) (hz : Digs 18446744073709551616 zs) (hy : Digs 18446744073709551616 ys) (h : ResDiv zs ys qs rs err) (hc : 0 < rs.length) :
    err = 0 ∧ (rightB qs = true ∧ rightB rs = true) ∧ val 18446744073709551616 qs + 1 < 18446744073709551616 ^ 64 ∧ val 18446744073709551616 rs ≤ val 18446744073709551616 ys ∧
    ∀ ms ls, Res (val 18446744073709551616 qs + 1) ms 0 → Res (val 18446744073709551616 ys - val 18446744073709551616 rs) ls 0 → ResFloor true zs false ys (true && decide (0 < ms.length)) ms false ls 0 := by
  have hb := rightI_B hr
  have hb' := rightI_B hr'
  unfold ResDiv at h
  rw [hb, hb', if_pos (by rfl)] at h
  split at h
  · rename_i h0
    obtain ⟨rfl, rfl, rfl⟩ := h
    simp at hc
  · rename_i h0
    obtain ⟨rfl, d1, d2, r1, r2, v1, v2⟩ := h
    have hp := right_pos hy hb' h0
    have hrp := right_pos d2 r2 (by omega)
    have hm := Int.mul_ediv_add_emod (val 18446744073709551616 zs) (val 18446744073709551616 ys)
    have hlt := Int.emod_lt_of_pos (val 18446744073709551616 zs) hp
    have h64 := val_64 hz hb
    have hqn := val_nonneg (B := 18446744073709551616) (by decide) d1
    rw [← v1, ← v2] at hm
    rw [← v2] at hlt
    have hq1 : val 18446744073709551616 qs * 1 ≤ val 18446744073709551616 qs * val 18446744073709551616 ys := Int.mul_le_mul_of_nonneg_left (by omega) hqn
    rw [Int.mul_comm (val 18446744073709551616 ys)] at hm
    refine ⟨rfl, ⟨r1, r2⟩, by omega, by omega, fun ms ls hms hls => ?_⟩
    obtain ⟨e1, e2⟩ := ediv_neg_more (v := val 18446744073709551616 zs) hp (by rw [← v2]; exact hrp)
    rw [← v1] at e1
    rw [← v2] at e2
    unfold ResFloor
    rw [hr, hr', if_pos (by rfl), if_neg h0, if_neg (by simp)]
    have q1 := hms.signed true
    have q2 := hls.signed false
    rw [Bool.false_and] at q2
    refine ⟨rfl, ?_, ?_⟩
    · show ResW (-val 18446744073709551616 zs / val 18446744073709551616 ys) _ _ _
      rw [e1]; exact q1
    · show ResW (-val 18446744073709551616 zs % val 18446744073709551616 ys) _ _ _
      rw [e2]; exact q2

theorem ResW.got {v : Int} {p : Bool} {ls : List Int} (h : ResW v p ls 0) : iv p ls = v ∧ rightI p ls = true ∧ Digs 18446744073709551616 ls := by
  obtain ⟨h1, h2⟩ := h
  rcases h1 with ⟨_, hd, ht, hl, hv⟩ | ⟨h4, _⟩
  · have hr := right_mk hl ht
    have hz := val_zero_iff hd ht
    rw [hv] at hz
    subst h2
    unfold sz at hv hz
    by_cases h0 : v < 0
    · rw [if_pos h0] at hv hz
      have hp : 0 < ls.length := hz.1 (by omega)
      refine ⟨?_, ?_, hd⟩
      · simp [iv, h0, hv]
      · have hne : ls ≠ [] := by intro e; subst e; simp at hp
        simp [rightI, hr, hne]
    · rw [if_neg h0] at hv hz
      refine ⟨?_, ?_, hd⟩
      · simp [iv, h0, hv]
      · simp [rightI, hr, h0]
  · cases h4

theorem resw_self {n : Bool} {zs : List Int} (hd : Digs 18446744073709551616 zs) (hr : rightI n zs = true) : ResW (iv n zs) n zs 0 := by
  have hb := rightI_B hr
  have h1 := (res_of hd hb rfl).signed n
  have e : (n && decide (0 < zs.length)) = n := by
    cases n with
    | false => rfl
    | true =>
      simp only [rightI, Bool.and_eq_true, Bool.true_and, Bool.not_eq_true', decide_eq_false_iff_not] at hr
      simp only [Bool.true_and, decide_eq_true_eq]; omega
  rw [e] at h1
  exact h1

theorem floor_got {n : Bool} {zs ys : List Int} {p r : Bool} {qs rs : List Int} {e : Int} (hr : rightI n zs = true) (hr' : rightI false ys = true) (h0 : ys.length ≠ 0) (h : ResFloor n zs false ys p qs r rs e) :
    e = 0 ∧ ResW (iv n zs / val 18446744073709551616 ys) p qs 0 ∧ ResW (iv n zs % val 18446744073709551616 ys) r rs 0 := by
  unfold ResFloor at h
  rw [hr, hr', if_pos (by rfl), if_neg h0, if_neg (by simp)] at h
  exact h

end Go.Proofs.YtchmlfjjgehbkaaGreat

namespace Go.Proofs.YtchmlfjjgehbkaaGreat
open Go.RowKit

/-- The cells of four blocks of two cells that were made in a row stand behind what leaves old memory alone. -/
theorem held2222 {w w2 : World} {x y x' y' x'' y'' x3 y3 : Value} {t t' t'' t3 : TypeId} (hb : Below ((((w.alloc (.cells #[x, y] t)).alloc (.cells #[x', y'] t')).alloc (.cells #[x'', y''] t'')).alloc (.cells #[x3, y3] t3)).heap.size ((((w.alloc (.cells #[x, y] t)).alloc (.cells #[x', y'] t')).alloc (.cells #[x'', y''] t'')).alloc (.cells #[x3, y3] t3)) w2) :
    (w2.cell? ⟨w.heap.size, 0, none⟩ = some x ∧ w2.cell? ⟨w.heap.size, 1, none⟩ = some y) ∧ (w2.cell? ⟨w.heap.size + 1, 0, none⟩ = some x' ∧ w2.cell? ⟨w.heap.size + 1, 1, none⟩ = some y') ∧ (w2.cell? ⟨w.heap.size + 1 + 1, 0, none⟩ = some x'' ∧ w2.cell? ⟨w.heap.size + 1 + 1, 1, none⟩ = some y'') ∧
    (w2.cell? ⟨w.heap.size + 1 + 1 + 1, 0, none⟩ = some x3 ∧ w2.cell? ⟨w.heap.size + 1 + 1 + 1, 1, none⟩ = some y3) ∧
    (w2.frozen? ⟨w.heap.size + 1 + 1, 0, none⟩ = false ∧ w2.frozen? ⟨w.heap.size + 1 + 1, 1, none⟩ = false) ∧ w2.frozen? ⟨w.heap.size + 1 + 1 + 1, 0, none⟩ = false ∧ w2.frozen? ⟨w.heap.size + 1 + 1 + 1, 1, none⟩ = false := by
  obtain ⟨hc, hf⟩ := bcell hb
  have z3 : (((w.alloc (.cells #[x, y] t)).alloc (.cells #[x', y'] t')).alloc (.cells #[x'', y''] t'')).heap.size = w.heap.size + 1 + 1 + 1 := by simp
  have b3 : Below (((w.alloc (.cells #[x, y] t)).alloc (.cells #[x', y'] t')).alloc (.cells #[x'', y''] t'')).heap.size (((w.alloc (.cells #[x, y] t)).alloc (.cells #[x', y'] t')).alloc (.cells #[x'', y''] t'')) ((((w.alloc (.cells #[x, y] t)).alloc (.cells #[x', y'] t')).alloc (.cells #[x'', y''] t'')).alloc (.cells #[x3, y3] t3)) := (Below.refl _ _).alloc (Nat.le_refl _) _
  obtain ⟨p1, p2, p3, f0, f1⟩ := held222 (b3.trans (hb.mono b3.size))
  refine ⟨p1, p2, p3, ⟨?_, ?_⟩, ⟨f0, f1⟩, ?_, ?_⟩
  · rw [← z3, hc _ 0 (by simp)]; rw [World.cell?_alloc_new]; rfl
  · rw [← z3, hc _ 1 (by simp)]; rw [World.cell?_alloc_new]; rfl
  · rw [← z3, hf _ 0 (by simp)]; exact World.frozen?_alloc_new _ _ _ _
  · rw [← z3, hf _ 1 (by simp)]; exact World.frozen?_alloc_new _ _ _ _

/-- Two whole numbers are stored in two results' cells. -/
theorem Nums.put4 {w : World} {a : Option Addr} {n c g g' : Nat} {zs : List Int} (h : Nums w a n c zs) {q q' : Bool} {sa sa' : Option Addr} {sn sc sn' sc' : Nat} (hg : g' ≠ g) (c0 : w.cell? ⟨g, 0, none⟩ = some (.bool q)) (c1 : w.cell? ⟨g, 1, none⟩ = some (.slice sa sn sc))
    (d0 : w.cell? ⟨g', 0, none⟩ = some (.bool q')) (d1 : w.cell? ⟨g', 1, none⟩ = some (.slice sa' sn' sc')) (x y x' y' : Value) :
    Nums ((((w.setCell ⟨g, 0, none⟩ x).setCell ⟨g, 1, none⟩ y).setCell ⟨g', 0, none⟩ x').setCell ⟨g', 1, none⟩ y') a n c zs :=
  (h.put2 c0 c1 x y).put2 ((put2_other hg _ _).trans d0) ((put2_other hg _ _).trans d1) x' y'

theorem bput4 {B : Nat} {a w : World} (h : Below B a w) {g g' : Nat} (hg : B ≤ g) (hg' : B ≤ g') (x y x' y' : Value) :
    Below B a ((((w.setCell ⟨g, 0, none⟩ x).setCell ⟨g, 1, none⟩ y).setCell ⟨g', 0, none⟩ x').setCell ⟨g', 1, none⟩ y') :=
  (((h.setCell (p := ⟨g, 0, none⟩) hg x).setCell (p := ⟨g, 1, none⟩) hg y).setCell (p := ⟨g', 0, none⟩) hg' x').setCell (p := ⟨g', 1, none⟩) hg' y'

/-- What a pair of whole numbers that are stored in results' cells reads as. -/
theorem put4_cells {w : World} {g g' : Nat} (hg : g' ≠ g) {q q' : Bool} {sa sa' : Option Addr} {sn sc sn' sc' : Nat} (c0 : w.cell? ⟨g, 0, none⟩ = some (.bool q)) (c1 : w.cell? ⟨g, 1, none⟩ = some (.slice sa sn sc))
    (d0 : w.cell? ⟨g', 0, none⟩ = some (.bool q')) (d1 : w.cell? ⟨g', 1, none⟩ = some (.slice sa' sn' sc')) (x y x' y' : Value) :
    (((((w.setCell ⟨g, 0, none⟩ x).setCell ⟨g, 1, none⟩ y).setCell ⟨g', 0, none⟩ x').setCell ⟨g', 1, none⟩ y').cell? ⟨g, 0, none⟩ = some x ∧ ((((w.setCell ⟨g, 0, none⟩ x).setCell ⟨g, 1, none⟩ y).setCell ⟨g', 0, none⟩ x').setCell ⟨g', 1, none⟩ y').cell? ⟨g, 1, none⟩ = some y) ∧
    ((((w.setCell ⟨g, 0, none⟩ x).setCell ⟨g, 1, none⟩ y).setCell ⟨g', 0, none⟩ x').setCell ⟨g', 1, none⟩ y').cell? ⟨g', 0, none⟩ = some x' ∧ ((((w.setCell ⟨g, 0, none⟩ x).setCell ⟨g, 1, none⟩ y).setCell ⟨g', 0, none⟩ x').setCell ⟨g', 1, none⟩ y').cell? ⟨g', 1, none⟩ = some y' := by
  refine ⟨⟨?_, ?_⟩, ?_, ?_⟩
  · rw [put2_other (Ne.symm hg), World.cell?_setCell_other _ _ _ _ (by intro e; cases e)]; exact World.cell?_setCell_same _ _ _ c0
  · rw [put2_other (Ne.symm hg)]; refine World.cell?_setCell_same _ _ _ (u := .slice sa sn sc) ?_; rw [World.cell?_setCell_other _ _ _ _ (by intro e; cases e)]; exact c1
  · rw [World.cell?_setCell_other _ _ _ _ (by intro e; cases e)]; exact World.cell?_setCell_same _ _ _ ((put2_other hg _ _).trans d0)
  · refine World.cell?_setCell_same _ _ _ (u := .slice sa' sn' sc') ?_; rw [World.cell?_setCell_other _ _ _ _ (by intro e; cases e)]; exact (put2_other hg _ _).trans d1

end Go.Proofs.YtchmlfjjgehbkaaGreat
