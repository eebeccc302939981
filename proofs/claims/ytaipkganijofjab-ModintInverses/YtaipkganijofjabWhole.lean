/-
  Whole numbers (a sign and limbs): what they are, and contracts of modint's Right, signed and From, and of the document's.
-/
import Derived.Test.YtaipkganijofjabSub
import Derived.Laws.NewBlocks
namespace Go.Proofs.Ytaipkganijofjab
open Go.RowKit

/-- The whole number of a sign and limbs; may it be? -/
def iv (n : Bool) (zs : List Int) : Int := if n then - val 18446744073709551616 zs else val 18446744073709551616 zs
def rightI (n : Bool) (zs : List Int) : Bool := rightB zs && !(n && decide (zs.length = 0))

/-- The limbs and the sign that From tells. -/
def fromL (zs : List Int) : List Int := if rightB zs then zs else []
def fromN (n : Bool) (zs : List Int) : Bool := n && decide (0 < (fromL zs).length)

set_option maxHeartbeats 400000 in
theorem iright_any (n : Bool) (a : Option Addr) (la ca : Nat) (zs : List Int) (w : World) (h : Nums w a la ca zs) :
    Calls Try.prog 70 #[.agg #[.bool n, .slice a la ca]] w fun e w' => e = .returned (.bool (rightI n zs)) ∧ Below w.heap.size w w' := by
  have hB := (Below.refl w.heap.size w).alloc (Nat.le_refl _) (.cells #[.bool n, .slice a la ca] 49)
  have H := h.below hB
  have hl := h.hlen
  have hm := h.hmax
  have hcp := h.hcap
  unfold maxLen at hm
  cases hr : rightB zs with
  | false =>
    have e : rightI n zs = false := by simp [rightI, hr]
    rw [e]
    go_enter Try.func70, Try.ntmps70
    go_wp2_with fail
    refine (right_any _ _ _ _ _ H).mono ?_
    rintro e w' ⟨rfl, rfl⟩
    rw [hr]
    go_wp2_with fail
    go_ret
    exact ⟨rfl, hB⟩
  | true =>
    cases n with
    | false =>
      have e : rightI false zs = true := by simp [rightI, hr]
      rw [e]
      go_enter Try.func70, Try.ntmps70
      go_wp2_with fail
      refine (right_any _ _ _ _ _ H).mono ?_
      rintro e w' ⟨rfl, rfl⟩
      rw [hr]
      go_wp2_with fail
      go_ret
      exact ⟨rfl, hB⟩
    | true =>
      by_cases h0 : la = 0
      · have e : rightI true zs = false := by simp [rightI, hl, h0]
        rw [e]
        subst h0
        go_enter Try.func70, Try.ntmps70
        go_wp2_with fail
        refine (right_any _ _ _ _ _ H).mono ?_
        rintro e w' ⟨rfl, rfl⟩
        rw [hr]
        go_wp2_with fail
        go_ret
        exact ⟨rfl, hB⟩
      · have e : rightI true zs = true := by simp [rightI, hr, hl, h0]
        rw [e]
        have hne : ((la : Int) == 0) = false := by simp; omega
        clear hl
        go_enter Try.func70, Try.ntmps70
        go_wp2_with fail
        refine (right_any _ _ _ _ _ H).mono ?_
        rintro e w' ⟨rfl, rfl⟩
        rw [hr]
        go_wp2_with fail
        go_ret
        exact ⟨rfl, hB⟩

set_option maxHeartbeats 400000 in
theorem signed_any (n : Bool) (a : Option Addr) (la ca : Nat) (zs : List Int) (w : World) (h : Nums w a la ca zs) :
    Calls Try.prog 73 #[.bool n, .slice a la ca] w fun e w' => e = .returned (.agg #[.bool (n && decide (0 < zs.length)), .slice a la ca]) ∧ Below w.heap.size w w' := by
  have hl := h.hlen
  have hm := h.hmax
  have hcp := h.hcap
  unfold maxLen at hm
  have hB := (Below.refl w.heap.size w).alloc (Nat.le_refl _) (.cells #[.bool (n && decide (0 < zs.length)), .slice a la ca] 49)
  cases n with
  | false =>
    rw [Bool.false_and] at hB ⊢
    go_enter Try.func73, Try.ntmps73
    go_wp2_with fail
    exact bodyPost_ret (v := .agg #[.bool false, .slice a la ca]) (by simp [results, Try.results73, go_sem]) rfl ⟨rfl, hB⟩
  | true =>
    rw [Bool.true_and] at hB ⊢
    by_cases h0 : 0 < la
    · rw [show decide (0 < zs.length) = true by rw [hl]; simp; omega] at hB ⊢
      have hp : (0 : Int) < (la : Int) := by omega
      clear hl
      go_enter Try.func73, Try.ntmps73
      go_wp2_with fail
      exact bodyPost_ret (v := .agg #[.bool true, .slice a la ca]) (by simp [results, Try.results73, go_sem]) rfl ⟨rfl, hB⟩
    · rw [show decide (0 < zs.length) = false by rw [hl]; simp; omega] at hB ⊢
      obtain rfl : la = 0 := by omega
      clear hl
      go_enter Try.func73, Try.ntmps73
      go_wp2_with fail
      exact bodyPost_ret (v := .agg #[.bool false, .slice a 0 ca]) (by simp [results, Try.results73, go_sem]) rfl ⟨rfl, hB⟩

/-- The behind of a store of a whole number into a cell that was made since. -/
theorem bcell {W w1 : World} (hb : Below W.heap.size W w1) : (∀ b o, b < W.heap.size → w1.cell? ⟨b, o, none⟩ = W.cell? ⟨b, o, none⟩) ∧ (∀ b o, b < W.heap.size → w1.frozen? ⟨b, o, none⟩ = W.frozen? ⟨b, o, none⟩) :=
  ⟨fun b o h => hb.cell (p := ⟨b, o, none⟩) h, fun b o h => hb.frozen (p := ⟨b, o, none⟩) h⟩

/-- Two cells of a block that was made stand behind what leaves old memory alone. -/
theorem held2 {w w2 : World} {x y : Value} {t : TypeId} (hb : Below (w.alloc (.cells #[x, y] t)).heap.size (w.alloc (.cells #[x, y] t)) w2) :
    (w2.cell? ⟨w.heap.size, 0, none⟩ = some x ∧ w2.cell? ⟨w.heap.size, 1, none⟩ = some y) ∧ w2.frozen? ⟨w.heap.size, 0, none⟩ = false ∧ w2.frozen? ⟨w.heap.size, 1, none⟩ = false := by
  obtain ⟨hc, hf⟩ := bcell hb
  refine ⟨⟨?_, ?_⟩, ?_, ?_⟩
  · rw [hc _ _ (by simp)]; simp
  · rw [hc _ _ (by simp)]; simp
  · rw [hf _ _ (by simp)]; simp
  · rw [hf _ _ (by simp)]; simp

theorem Nums.put {w : World} {a : Option Addr} {n c : Nat} {zs : List Int} (h : Nums w a n c zs) {p : Addr} {x : Value} (hp : w.cell? p = some x) (hx : ∀ z, x ≠ .int .u64 z) (v : Value) : Nums (w.setCell p v) a n c zs := by
  refine ⟨h.hlen, h.hcap, h.hmax, fun h0 => ?_, h.word⟩
  obtain ⟨b, off, e, hc⟩ := h.cells h0
  refine ⟨b, off, e, fun i hi => ?_⟩
  rw [World.cell?_setCell_other]
  · exact hc i hi
  · intro e2
    have := hc i hi
    rw [← e2, hp] at this
    exact hx _ (Option.some.inj this)

/-- A whole number is stored in a result's cell: no word has turned. -/
theorem Nums.put2 {w : World} {a : Option Addr} {n c g : Nat} {zs : List Int} (h : Nums w a n c zs) {q : Bool} {sa : Option Addr} {sn sc : Nat} (c0 : w.cell? ⟨g, 0, none⟩ = some (.bool q)) (c1 : w.cell? ⟨g, 1, none⟩ = some (.slice sa sn sc)) (x y : Value) :
    Nums ((w.setCell ⟨g, 0, none⟩ x).setCell ⟨g, 1, none⟩ y) a n c zs := by
  refine (h.put c0 (fun z => by simp) x).put (x := .slice sa sn sc) ?_ (fun z => by simp) y
  rw [World.cell?_setCell_other]
  · exact c1
  · simp

theorem put2_other {w : World} {g g' i : Nat} (h : g' ≠ g) (x y : Value) : ((w.setCell ⟨g, 0, none⟩ x).setCell ⟨g, 1, none⟩ y).cell? ⟨g', i, none⟩ = w.cell? ⟨g', i, none⟩ := by
  rw [World.cell?_setCell_other, World.cell?_setCell_other]
  · intro e; cases e; exact h rfl
  · intro e; cases e; exact h rfl

set_option maxHeartbeats 400000 in
theorem from_any (n : Bool) (a : Option Addr) (la ca : Nat) (zs : List Int) (w : World) (h : Nums w a la ca zs) :
    Calls Try.prog 42 #[.bool n, .slice a la ca] w fun e w' => ∃ a' n' c', e = .returned (.agg #[.bool (fromN n zs), .slice a' n' c']) ∧ Nums w' a' n' c' (fromL zs) ∧ Below w.heap.size w w' := by
  have hB := (Below.refl w.heap.size w).alloc (Nat.le_refl _) (.cells #[.bool false, .slice none 0 0] 49)
  have H := h.below hB
  cases hr : rightB zs with
  | false =>
    have e1 : fromL zs = [] := by simp [fromL, hr]
    have e2 : fromN n zs = false := by simp [fromN, e1]
    rw [e1, e2]
    go_enter Try.func42, Try.ntmps42
    go_wp2_with fail
    refine (right_any _ _ _ _ _ H).mono ?_
    rintro e w' ⟨rfl, rfl⟩
    rw [hr]
    go_wp2_with fail
    exact bodyPost_ret (v := .agg #[.bool false, .slice none 0 0]) (by simp [results, Try.results42, go_sem]) rfl ⟨_, _, _, rfl, Nums.nil _, hB⟩
  | true =>
    have e1 : fromL zs = zs := by simp [fromL, hr]
    have e2 : fromN n zs = (n && decide (0 < zs.length)) := by simp [fromN, e1]
    rw [e1, e2]
    clear e1 e2
    obtain ⟨q, hq⟩ : ∃ q, q = (n && decide (0 < zs.length)) := ⟨_, rfl⟩
    rw [← hq]
    have HQ : Hid (q = (n && decide (0 < zs.length))) := hq
    clear hq
    have hl := h.hlen
    have hl2 := right_len hr
    go_enter Try.func42, Try.ntmps42
    go_wp2_with fail
    refine (right_any _ _ _ _ _ H).mono ?_
    rintro e w' ⟨rfl, rfl⟩
    rw [hr]
    go_wp2_with fail
    refine (clone_any _ _ _ _ _ H (by omega)).mono ?_
    rintro e w1 ⟨a', n', c', rfl, hn, -, hb1⟩
    go_wp2_with fail
    refine (signed_any _ _ _ _ _ _ hn).mono ?_
    rintro e w2 ⟨rfl, hb2⟩
    rw [← HQ.out]
    have hb12 := hb1.trans (hb2.mono hb1.size)
    obtain ⟨⟨c0, c1⟩, f0, f1⟩ := held2 hb12
    have hn2 := (hn.below hb2).put2 c0 c1 (.bool q) (.slice a' n' c')
    have hBB := ((hB.trans (hb12.mono hB.size)).setCell (p := ⟨w.heap.size, 0, none⟩) (Nat.le_refl _) (.bool q)).setCell (p := ⟨w.heap.size, 1, none⟩) (Nat.le_refl _) (.slice a' n' c')
    clear hl hn hb1 hb2 hb12 H hB
    go_wp2_with fail
    exact bodyPost_ret (v := .agg #[.bool q, .slice a' n' c']) (by simp [results, Try.results42, go_sem, c0, c1]) rfl ⟨_, _, _, rfl, hn2, hBB⟩

theorem bkeep {B : Nat} {w w' : World} (hb : Below B w w') {p : Addr} {x : Value} (h : w.cell? p = some x) (hB : w.heap.size = B) : w'.cell? p = some x :=
  (hb.cell (p := p) (by rw [← hB]; exact World.block_lt_of_cell? w _ h)).trans h

/-- The cells of two blocks of two cells, and of three, that were made in a row, stand behind what leaves old memory alone. -/
theorem held22 {w w2 : World} {x y x' y' : Value} {t t' : TypeId} (hb : Below ((w.alloc (.cells #[x, y] t)).alloc (.cells #[x', y'] t')).heap.size ((w.alloc (.cells #[x, y] t)).alloc (.cells #[x', y'] t')) w2) :
    (w2.cell? ⟨w.heap.size, 0, none⟩ = some x ∧ w2.cell? ⟨w.heap.size, 1, none⟩ = some y) ∧ (w2.cell? ⟨w.heap.size + 1, 0, none⟩ = some x' ∧ w2.cell? ⟨w.heap.size + 1, 1, none⟩ = some y') ∧
    (w2.frozen? ⟨w.heap.size, 0, none⟩ = false ∧ w2.frozen? ⟨w.heap.size, 1, none⟩ = false) ∧ w2.frozen? ⟨w.heap.size + 1, 0, none⟩ = false ∧ w2.frozen? ⟨w.heap.size + 1, 1, none⟩ = false := by
  obtain ⟨hc, hf⟩ := bcell hb
  refine ⟨⟨?_, ?_⟩, ⟨?_, ?_⟩, ⟨?_, ?_⟩, ?_, ?_⟩
  · rw [hc w.heap.size 0 (by simp; omega)]; simp
  · rw [hc w.heap.size 1 (by simp; omega)]; simp
  · rw [hc (w.heap.size + 1) 0 (by simp)]; simp
  · rw [hc (w.heap.size + 1) 1 (by simp)]; simp
  · rw [hf w.heap.size 0 (by simp; omega)]; simp
  · rw [hf w.heap.size 1 (by simp; omega)]; simp
  · rw [hf (w.heap.size + 1) 0 (by simp)]; simp
  · rw [hf (w.heap.size + 1) 1 (by simp)]; simp

theorem held222 {w w2 : World} {x y x' y' x'' y'' : Value} {t t' t'' : TypeId} (hb : Below (((w.alloc (.cells #[x, y] t)).alloc (.cells #[x', y'] t')).alloc (.cells #[x'', y''] t'')).heap.size (((w.alloc (.cells #[x, y] t)).alloc (.cells #[x', y'] t')).alloc (.cells #[x'', y''] t'')) w2) :
    (w2.cell? ⟨w.heap.size, 0, none⟩ = some x ∧ w2.cell? ⟨w.heap.size, 1, none⟩ = some y) ∧ (w2.cell? ⟨w.heap.size + 1, 0, none⟩ = some x' ∧ w2.cell? ⟨w.heap.size + 1, 1, none⟩ = some y') ∧ (w2.cell? ⟨w.heap.size + 1 + 1, 0, none⟩ = some x'' ∧ w2.cell? ⟨w.heap.size + 1 + 1, 1, none⟩ = some y'') ∧
    w2.frozen? ⟨w.heap.size + 1 + 1, 0, none⟩ = false ∧ w2.frozen? ⟨w.heap.size + 1 + 1, 1, none⟩ = false := by
  obtain ⟨hc, hf⟩ := bcell hb
  have b1 : Below (w.alloc (.cells #[x, y] t)).heap.size (w.alloc (.cells #[x, y] t)) (((w.alloc (.cells #[x, y] t)).alloc (.cells #[x', y'] t')).alloc (.cells #[x'', y''] t'')) := ((Below.refl _ _).alloc (Nat.le_refl _) _).alloc (by simp) _
  have b2 : Below ((w.alloc (.cells #[x, y] t)).alloc (.cells #[x', y'] t')).heap.size ((w.alloc (.cells #[x, y] t)).alloc (.cells #[x', y'] t')) (((w.alloc (.cells #[x, y] t)).alloc (.cells #[x', y'] t')).alloc (.cells #[x'', y''] t'')) := (Below.refl _ _).alloc (Nat.le_refl _) _
  have z1 : (w.alloc (.cells #[x, y] t)).heap.size = w.heap.size + 1 := by simp
  have z2 : ((w.alloc (.cells #[x, y] t)).alloc (.cells #[x', y'] t')).heap.size = w.heap.size + 1 + 1 := by simp
  rw [← z2, ← z1]
  refine ⟨⟨?_, ?_⟩, ⟨?_, ?_⟩, ⟨?_, ?_⟩, ?_, ?_⟩
  · exact bkeep hb (bkeep b1 (by simp) rfl) rfl
  · exact bkeep hb (bkeep b1 (by simp) rfl) rfl
  · exact bkeep hb (bkeep b2 (by rw [World.cell?_alloc_new]; rfl) rfl) rfl
  · exact bkeep hb (bkeep b2 (by rw [World.cell?_alloc_new]; rfl) rfl) rfl
  · rw [hc _ 0 (by simp)]; rw [World.cell?_alloc_new]; rfl
  · rw [hc _ 1 (by simp)]; rw [World.cell?_alloc_new]; rfl
  · rw [hf _ 0 (by simp)]; exact World.frozen?_alloc_new _ _ _ _
  · rw [hf _ 1 (by simp)]; exact World.frozen?_alloc_new _ _ _ _

theorem Nums.alike {w w' : World} {a : Option Addr} {n c : Nat} {zs : List Int} (h : Nums w a n c zs) (he : ∀ p, w'.cell? p = w.cell? p) : Nums w' a n c zs := by
  refine ⟨h.hlen, h.hcap, h.hmax, fun h0 => ?_, h.word⟩
  obtain ⟨b, off, e, hc⟩ := h.cells h0
  exact ⟨b, off, e, fun i hi => (he _).trans (hc i hi)⟩

set_option maxHeartbeats 400000 in
theorem refIRight_any (n : Bool) (a : Option Addr) (la ca : Nat) (zs : List Int) (w : World) (h : Nums w a la ca zs) :
    Calls Try.prog 66 #[.agg #[.bool n, .slice a la ca]] w fun e w' => e = .returned (.bool (rightI n zs)) ∧ Below w.heap.size w w' := by
  have hB := (Below.refl w.heap.size w).alloc (Nat.le_refl _) (.cells #[.bool n, .slice a la ca] 49)
  have H := h.below hB
  have hl := h.hlen
  have hm := h.hmax
  have hcp := h.hcap
  unfold maxLen at hm
  cases hr : rightB zs with
  | false =>
    have e : rightI n zs = false := by simp [rightI, hr]
    rw [e]
    go_enter Try.func66, Try.ntmps66
    go_wp2_with fail
    refine (refRight_any _ _ _ _ _ H).mono ?_
    rintro e w' ⟨rfl, rfl⟩
    rw [hr]
    go_wp2_with fail
    go_ret
    exact ⟨rfl, hB⟩
  | true =>
    cases n with
    | false =>
      have e : rightI false zs = true := by simp [rightI, hr]
      rw [e]
      go_enter Try.func66, Try.ntmps66
      go_wp2_with fail
      refine (refRight_any _ _ _ _ _ H).mono ?_
      rintro e w' ⟨rfl, rfl⟩
      rw [hr]
      go_wp2_with fail
      go_ret
      exact ⟨rfl, hB⟩
    | true =>
      by_cases h0 : la = 0
      · have e : rightI true zs = false := by simp [rightI, hl, h0]
        rw [e]
        subst h0
        go_enter Try.func66, Try.ntmps66
        go_wp2_with fail
        refine (refRight_any _ _ _ _ _ H).mono ?_
        rintro e w' ⟨rfl, rfl⟩
        rw [hr]
        go_wp2_with fail
        go_ret
        exact ⟨rfl, hB⟩
      · have e : rightI true zs = true := by simp [rightI, hr, hl, h0]
        rw [e]
        have hne : (0 : Int) < (la : Int) := by omega
        have hn0 : 0 < la := by omega
        clear hl
        go_enter Try.func66, Try.ntmps66
        go_wp2_with fail
        refine (refRight_any _ _ _ _ _ H).mono ?_
        rintro e w' ⟨rfl, rfl⟩
        rw [hr]
        go_wp2_with fail
        go_ret
        exact ⟨rfl, hB⟩

set_option maxHeartbeats 400000 in
theorem refFrom_any (n : Bool) (a : Option Addr) (la ca : Nat) (zs : List Int) (w : World) (h : Nums w a la ca zs) :
    Calls Try.prog 37 #[.bool n, .slice a la ca] w fun e w' => ∃ a' n' c', e = .returned (.agg #[.bool (fromN n zs), .slice a' n' c']) ∧ Nums w' a' n' c' (fromL zs) ∧ Below w.heap.size w w' := by
  have hB := (Below.refl w.heap.size w).alloc (Nat.le_refl _) (.cells #[.bool false, .slice none 0 0] 49)
  have H := h.below hB
  have hl := h.hlen
  have hd := h.digs
  cases hr : rightB zs with
  | false =>
    have e1 : fromL zs = [] := by simp [fromL, hr]
    have e2 : fromN n zs = false := by simp [fromN, e1]
    rw [e1, e2]
    clear hl
    go_enter Try.func37, Try.ntmps37
    go_wp2_with fail
    refine (refRight_any _ _ _ _ _ H).mono ?_
    rintro e w' ⟨rfl, rfl⟩
    rw [hr]
    go_wp2_with fail
    exact bodyPost_ret (v := .agg #[.bool false, .slice none 0 0]) (by simp [results, Try.results37, go_sem]) rfl ⟨_, _, _, rfl, Nums.nil _, hB⟩
  | true =>
    by_cases h0 : la = 0
    · have e1 : fromL zs = [] := by
        have : zs = [] := List.eq_nil_of_length_eq_zero (by omega)
        subst this; rfl
      have e2 : fromN n zs = false := by simp [fromN, e1]
      rw [e1, e2]
      subst h0
      clear hl
      go_enter Try.func37, Try.ntmps37
      go_wp2_with fail
      refine (refRight_any _ _ _ _ _ H).mono ?_
      rintro e w' ⟨rfl, rfl⟩
      rw [hr]
      go_wp2_with fail
      exact bodyPost_ret (v := .agg #[.bool false, .slice none 0 0]) (by simp [results, Try.results37, go_sem]) rfl ⟨_, _, _, rfl, Nums.nil _, hB⟩
    · have e1 : fromL zs = zs := by simp [fromL, hr]
      have e2 : fromN n zs = n := by simp [fromN, e1, hl]; omega
      rw [e1, e2]
      obtain ⟨b, off, rfl, -⟩ := h.cells (by omega)
      have hl2 := right_len hr
      have hm := h.hmax
      have hcp := h.hcap
      have hl64 : la ≤ 64 := by omega
      have hne : ((la : Int) == 0) = false := by simp; omega
      unfold maxLen at hm
      clear e1 e2 hl hl2
      have hown := Own.empty (w.alloc (.cells #[.bool false, .slice none 0 0] 49))
      have hb0 := (Below.refl (w.alloc (.cells #[.bool false, .slice none 0 0] 49)).heap.size (w.alloc (.cells #[.bool false, .slice none 0 0] 49))).alloc (Nat.le_refl _) (.cells #[] 29)
      have h1 := H.below hb0
      have hz : (w.alloc (.cells #[.bool false, .slice none 0 0] 49)).heap.size = w.heap.size + 1 := by simp
      rw [hz] at hown hb0
      go_enter Try.func37, Try.ntmps37
      go_wp2_with fail
      refine (refRight_any _ _ _ _ _ H).mono ?_
      rintro e w' ⟨rfl, rfl⟩
      rw [hr]
      go_wp2_with (at_builtin; refine wpList_appN _ rfl _ _ 23 rfl Try.underlying23 (w.heap.size + 1) _ [] rfl hown (some ⟨b, off, none⟩) la ca zs rfl h1 ?_ ?_ (w.alloc (.cells #[.bool false, .slice none 0 0] 49)) ?_ hb0 ?_)
      · intro e; cases e
      · have := h.hlen; simp; omega
      · simp
      · intro v' w2 hown1 hb1
        obtain ⟨a1, n1, cap1, rfl, hn1, hfr⟩ := hown1.fresh hd
        rw [← hz] at hb1
        obtain ⟨⟨c0, c1⟩, f0, f1⟩ := held2 hb1
        have hn2 := hn1.put2 c0 c1 (.bool n) (.slice a1 n1 cap1)
        have hBB := ((hB.trans (hb1.mono hB.size)).setCell (p := ⟨w.heap.size, 0, none⟩) (Nat.le_refl _) (.bool n)).setCell (p := ⟨w.heap.size, 1, none⟩) (Nat.le_refl _) (.slice a1 n1 cap1)
        clear hown1 hown h1 hb0 hn1 hfr H hB hb1
        go_wp2_with fail
        exact bodyPost_ret (v := .agg #[.bool n, .slice a1 n1 cap1]) (by simp [results, Try.results37, go_sem, c0, c1]) rfl ⟨_, _, _, rfl, hn2, hBB⟩
end Go.Proofs.Ytaipkganijofjab
