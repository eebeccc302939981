/-
  The document's worth of rows: Score.
  The document's right rows' sums: Right.
  Fractions of scores added and subtracted. Written by mk/r17c.py.
  The document's gain of a split: Gain, its statements. Written by mk/r17d.py.
  The document's gain of a split: Gain. Written by mk/r17d.py.
-/
import Derived.Test.YtchmlfjjgehbkaaD17A
import Derived.Test.YtchmlfjjgehbkaaR16
import Derived.Test.YtchmlfjjgehbkaaR8C
import Derived.Test.YtchmlfjjgehbkaaR8P
import Derived.Test.YtchmlfjjgehbkaaModR
import Derived.Test.YtchmlfjjgehbkaaPieces
namespace Go.Proofs.Ytchmlfjjgehbkaa
open Go.RowKit

/-- What is told: a fraction, where it may be asked for; else a fault. -/
def FT17 (P : Prop) (q : Q17) (w : World) (e : Ending) (w' : World) : Prop := (P → FracT none (numF q.1 q.2) (denF q.1 q.2) w e w') ∧ (¬ P → FracT (some 1) 0 0 w e w')
theorem keep17 {w : World} {G s g : Nat} {p0 p1 p2 : Option Value} (h0 : G ≠ g) (h1 : s ≠ g) (x y z : Value)
    (h : w.cell? ⟨G, 1, none⟩ = p0 ∧ w.cell? ⟨s, 0, none⟩ = p1 ∧ w.cell? ⟨s, 1, none⟩ = p2) :
    (((w.setCell ⟨g, 0, none⟩ x).setCell ⟨g, 1, none⟩ y).setCell ⟨g, 2, none⟩ z).cell? ⟨G, 1, none⟩ = p0 ∧ (((w.setCell ⟨g, 0, none⟩ x).setCell ⟨g, 1, none⟩ y).setCell ⟨g, 2, none⟩ z).cell? ⟨s, 0, none⟩ = p1 ∧ (((w.setCell ⟨g, 0, none⟩ x).setCell ⟨g, 1, none⟩ y).setCell ⟨g, 2, none⟩ z).cell? ⟨s, 1, none⟩ = p2 :=
  ⟨(put3_other h0 x y z).trans h.1, (put3_other h1 x y z).trans h.2.1, (put3_other h1 x y z).trans h.2.2⟩
theorem run_mag17 (ob : Bool) (oa : Option Addr) (ol oc : Nat) (w : World) : Sem.run Try.prog (Instr.field 28 (.agg #[.bool ob, .slice oa ol oc]) 1) w = .ok (.slice oa ol oc) w := by
  simp [Instr.field, run_underlying Try.underlying28, go_sem, asAgg, part]
attribute [local go_sem] run_mag17
set_option maxRecDepth 20000 in
set_option maxHeartbeats 20000000 in
theorem r17score_any (l G H : Int) (w : World) (hl : -9223372036854775808 ≤ l ∧ l < 9223372036854775808) : Calls Try.prog 8 #[.int .i64 l, .agg #[.int .i64 G, .int .i64 H]] w fun e w' => FT17 (ScoreArg l G H) (scoreQ l G H) w e w' := by
  obtain ⟨V, hVe⟩ : ∃ V, V = ((w.alloc (.cells #[.int .i64 G, .int .i64 H] 23)).alloc (.cells #[.bool false, .slice none 0 0, .slice none 0 0] 30)) := ⟨_, rfl⟩
  have hv1 := balloc w (.cells #[.int .i64 G, .int .i64 H] 23)
  have hv2 := balloc (w.alloc (.cells #[.int .i64 G, .int .i64 H] 23)) (.cells #[.bool false, .slice none 0 0, .slice none 0 0] 30)
  have hV := bthen hv1 hv2
  have hR := Cell3.new (w.alloc (.cells #[.int .i64 G, .int .i64 H] 23)) false none none 0 0 0 0
  have hS := heap_alloc_new w (.cells #[.int .i64 G, .int .i64 H] 23)
  have x0 : V.cell? ⟨w.heap.size, 0, none⟩ = some (.int .i64 G) := by rw [hVe]; exact bkeep hv2 (by rw [cell_of_row _ _ _ _ _ _ hS]; rfl) rfl
  have x1 : V.cell? ⟨w.heap.size, 1, none⟩ = some (.int .i64 H) := by rw [hVe]; exact bkeep hv2 (by rw [cell_of_row _ _ _ _ _ _ hS]; rfl) rfl
  simp only [World.size_alloc] at hR
  rw [← hVe] at hV hR
  have HVe : Hid (V = ((w.alloc (.cells #[.int .i64 G, .int .i64 H] 23)).alloc (.cells #[.bool false, .slice none 0 0, .slice none 0 0] 30))) := hVe
  clear hv1 hv2 hVe hS
  go_enter Try.func8, Try.ntmps8
  go_wp2_with fail
  rw [← HVe.out]
  obtain ⟨g, hg⟩ : ∃ g, g = w.heap.size := ⟨_, rfl⟩
  rw [← hg] at hR x0 x1
  rw [← hg]
  have HG : Hid (g = w.heap.size) := hg
  clear HVe hg
  refine Calls.mono (r16sum_any G H V) ?_
  rintro e w1 ⟨z, rfl, hz, hb1⟩
  have hB1 := bthen hV hb1
  replace x0 := bkeep hb1 x0 rfl
  replace x1 := bkeep hb1 x1 rfl
  replace hR := hR.below hb1
  clear hb1 hV
  have bad : ¬ ScoreArg l G H → ∀ W : World, W = ((w1.setCell ⟨g + 1, 0, none⟩ (.bool false)).setCell ⟨g + 1, 1, none⟩ (.slice none 0 0)).setCell ⟨g + 1, 2, none⟩ (.slice none 0 0) → FT17 (ScoreArg l G H) (scoreQ l G H) w (.returned (.tuple #[.agg #[.bool false, .slice none 0 0, .slice none 0 0], .int .i64 1])) W := by
    rintro hn W rfl
    have hBB := put3_below hB1 (g := g + 1) (by rw [HG.out]; omega) (.bool false) (.slice none 0 0) (.slice none 0 0)
    exact ⟨fun e => absurd e hn, fun _ => ⟨false, none, 0, 0, none, 0, 0, [], [], 1, rfl, ⟨Nums.nil _, Nums.nil _⟩, ToldF.bad rfl, hBB⟩⟩
  have HBad : Hid _ := bad
  clear bad
  cases z with
  | false =>
    have HX : Hid (¬ ScoreArg l G H) := fun e => by have := hz.2 e.2; cases this
    obtain ⟨r0, r1, r2, f0, f1, f2⟩ := hR
    clear hB1 hz x0 x1 HG hl
    go_wp2_with fail
    exact bodyPost_ret (v := .tuple #[.agg #[.bool false, .slice none 0 0, .slice none 0 0], .int .i64 1]) (by simp [results, Try.results8, go_sem, r0, r1, r2]) rfl (HBad.out HX.out _ rfl)
  | true =>
  have hsm := hz.1 rfl
  by_cases q1 : l < 1
  case pos =>
    have d1 : decide (l < 1) = true := decide_eq_true q1
    have HX : Hid (¬ ScoreArg l G H) := fun e => by have := e.1.1; omega
    obtain ⟨r0, r1, r2, f0, f1, f2⟩ := hR
    clear hB1 hz x0 x1 HG hl q1 hsm
    go_wp2_with fail
    exact bodyPost_ret (v := .tuple #[.agg #[.bool false, .slice none 0 0, .slice none 0 0], .int .i64 1]) (by simp [results, Try.results8, go_sem, r0, r1, r2]) rfl (HBad.out HX.out _ rfl)
  have d1 : decide (l < 1) = false := decide_eq_false q1
  by_cases q2 : 1048576 < l
  case pos =>
    have d2 : decide (1048576 < l) = true := decide_eq_true q2
    have HX : Hid (¬ ScoreArg l G H) := fun e => by have := e.1.2; omega
    obtain ⟨r0, r1, r2, f0, f1, f2⟩ := hR
    clear hB1 hz x0 x1 HG hl q1 q2 hsm
    go_wp2_with fail
    exact bodyPost_ret (v := .tuple #[.agg #[.bool false, .slice none 0 0, .slice none 0 0], .int .i64 1]) (by simp [results, Try.results8, go_sem, r0, r1, r2]) rfl (HBad.out HX.out _ rfl)
  have d2 : decide (1048576 < l) = false := decide_eq_false q2
  have hP : ScoreArg l G H := ⟨⟨by omega, by omega⟩, hsm⟩
  have bG : -9223372036854775808 ≤ G ∧ G < 9223372036854775808 := by have := hsm.1; have := hsm.2.1; omega
  have hwG : IntKind.i64.wrap G = G := by rw [IntKind.wrap_i64]; omega
  have HOG : Hid _ := refIOf_any G w1 bG
  have HP : Hid (ScoreArg l G H ∧ (-9223372036854775808 ≤ G ∧ G < 9223372036854775808)) := ⟨hP, bG⟩
  clear HBad hz hl q1 q2 hsm hP bG
  go_wp2_with fail
  refine Calls.mono HOG.out ?_
  rintro e w2 ⟨a2, n2, c2, rfl, hn2, hb2⟩
  have hB2 := bthen hB1 hb2
  replace x1 := bkeep hb2 x1 rfl
  replace hR := hR.below hb2
  obtain ⟨sg, hsg⟩ : ∃ sg, sg = decide (G < 0) := ⟨_, rfl⟩
  rw [← hsg]
  have hb3 := balloc w2 (.cells #[.bool sg, .slice a2 n2 c2] 28)
  obtain ⟨W3, hW3⟩ : ∃ W3, W3 = w2.alloc (.cells #[.bool sg, .slice a2 n2 c2] 28) := ⟨_, rfl⟩
  have hMul := refIMul_any sg sg a2 a2 n2 c2 n2 c2 _ _ W3 (hn2.below (by rw [hW3]; exact hb3)) (hn2.below (by rw [hW3]; exact hb3))
  replace x1 := bkeep hb3 x1 rfl
  replace hR := hR.below hb3
  have hB3 := bthen hB2 hb3
  rw [← hW3] at x1 hR hB3
  have HM : Hid _ := hMul
  have HW3 : Hid (W3 = w2.alloc (.cells #[.bool sg, .slice a2 n2 c2] 28)) := hW3
  have HSg : Hid (sg = decide (G < 0)) := hsg
  clear HOG hb2 hb3 hB1 hB2 x0 hn2 hMul hW3 hsg
  dsimp only
  go_wp2_with fail
  rw [← HW3.out]
  refine Calls.mono HM.out ?_
  rintro e w4 ⟨q, a4, n4, c4, ls, err, rfl, hn4, hRes, hb4⟩
  have hIs : IsW sg (ofZ (sz G)) G := by rw [HSg.out]; exact IsW.of HP.out.2
  have hgot := hRes.got hIs.2.1 hIs.2.1
  rw [hIs.2.2] at hgot
  have hbig : ((G * G).natAbs : Int) < 18446744073709551616 ^ 64 := by
    have := sq_size17 HP.out.1.2.1 HP.out.1.2.2.1
    exact Int.lt_of_le_of_lt (show (((G * G).natAbs : Nat) : Int) ≤ 1208925819614629174706176 by omega) (by decide)
  obtain ⟨hW4, rfl⟩ := IsW.res hgot hbig
  replace x1 := bkeep hb4 x1 rfl
  replace hR := hR.below hb4
  have hB4 := bthen hB3 hb4
  clear hRes hgot hbig hIs HM HW3 HSg hB3 hb4 d1 d2 hwG
  have hb5 := balloc w4 (.cells #[.bool q, .slice a4 n4 c4] 28)
  obtain ⟨y0, y1⟩ := Cell2.new w4 q a4 n4 c4
  obtain ⟨W, hW⟩ : ∃ W, W = w4.alloc (.cells #[.bool q, .slice a4 n4 c4] 28) := ⟨_, rfl⟩
  obtain ⟨s, hs⟩ : ∃ s, s = w4.heap.size := ⟨_, rfl⟩
  replace x1 := bkeep hb5 x1 rfl
  have hsz : g + 1 < w4.heap.size := hR.lt
  replace hR := hR.below hb5
  have hB := bthen hB4 hb5
  replace hn4 := hn4.below hb5
  rw [← hW] at x1 hR hB hn4 y0 y1
  rw [← hs] at y0 y1 hsz
  have HW : Hid (W = w4.alloc (.cells #[.bool q, .slice a4 n4 c4] 28) ∧ s = w4.heap.size) := ⟨hW, hs⟩
  obtain ⟨A, hA⟩ : ∃ A, A = H + l := ⟨_, rfl⟩
  have hpos := scoreQ_pos HP.out.1
  have bA : -9223372036854775808 ≤ A ∧ A < 9223372036854775808 := by rw [hA]; have := hpos.1; omega
  have hwn : RowKit.wrap64 A = A := by unfold RowKit.wrap64; omega
  have hwm : IntKind.i64.wrap A = A := by rw [IntKind.wrap_i64]; omega
  have eA : H + l = A := hA.symm
  have HRB : Hid (Below W.heap.size W W) := Below.refl _ _
  have HOf : Hid (∀ wx : World, Below W.heap.size W wx → Calls Try.prog 16 #[.int .i64 A] wx fun e w' => ∃ ob oa ol oc, e = .returned (.agg #[.bool ob, .slice oa ol oc]) ∧ Hid (WAt w' ob oa ol oc A ∧ Below W.heap.size W w') ∧ (w'.cell? ⟨g, 1, none⟩ = some (.int .i64 H) ∧ w'.cell? ⟨s, 0, none⟩ = some (.bool q) ∧ w'.cell? ⟨s, 1, none⟩ = some (.slice a4 n4 c4))) := by
    intro wx hbx
    refine (refIOf_any A wx bA).mono ?_
    rintro e w' ⟨a', n', c', rfl, hn, hb⟩
    have hb' := bthen hbx hb
    exact ⟨_, _, _, _, rfl, ⟨⟨_, hn, IsW.of bA⟩, hb'⟩, bkeep hb' x1 rfl, bkeep hb' y0 rfl, bkeep hb' y1 rfl⟩
  have HMk : Hid (∀ (wx : World) ob oa ol oc, (WAt wx ob oa ol oc A ∧ Below W.heap.size W wx) → Calls Try.prog 18 #[.agg #[.bool q, .slice a4 n4 c4], .slice oa ol oc] wx fun e w' => ∃ zb za zl zc za' zl' zc' err, e = .returned (.tuple #[.agg #[.bool zb, .slice za zl zc, .slice za' zl' zc'], .int .i64 err]) ∧ Hid (∃ zs zs', Nums w' za zl zc zs ∧ Nums w' za' zl' zc' zs' ∧ ToldF none (numF (scoreQ l G H).1 (scoreQ l G H).2) (denF (scoreQ l G H).1 (scoreQ l G H).2) zb zs zs' err ∧ Below W.heap.size W w') ∧ Cell3 w' (g + 1) false none 0 0 none 0 0 ∧ (w'.cell? ⟨g, 1, none⟩ = some (.int .i64 H) ∧ w'.cell? ⟨s, 0, none⟩ = some (.bool q) ∧ w'.cell? ⟨s, 1, none⟩ = some (.slice a4 n4 c4))) := by
    rintro wx ob oa ol oc ⟨⟨os, ho, hoW⟩, hbx⟩
    have hmk := r8make_any q _ _ _ _ _ _ ls os wx (hn4.below hbx) ho
    have e1 : iv q ls = (scoreQ l G H).1 := hW4.2.2
    have e2 : nv os = (scoreQ l G H).2 := by rw [hoW.mag.nv]; have := hpos.2.1; have := hpos.1; omega
    have e3 : makeFF q ls os = none := by
      unfold makeFF
      rw [hW4.2.1, hoW.right, e1, e2]
      exact makF_score17 HP.out.1
    rw [e3, e1, e2] at hmk
    refine hmk.mono ?_
    rintro e w' ⟨zb, za, zl, zc, za', zl', zc', zs, zs', err, rfl, ⟨hZ, hZ'⟩, hTold, hb⟩
    have hb' := bthen hbx hb
    exact ⟨zb, za, zl, zc, za', zl', zc', err, rfl, ⟨zs, zs', hZ, hZ', hTold, hb'⟩, hR.below hb', bkeep hb' x1 rfl, bkeep hb' y0 rfl, bkeep hb' y1 rfl⟩
  have HSz : Hid (g + 1 < s ∧ Below w.heap.size w W) := ⟨hsz, hB⟩
  clear hR hn4 hW4 hpos bA hA hsz hB hW hs hB4 hb5
  dsimp only
  go_wp2_with fail
  rw [← HW.out.1, ← HW.out.2]
  have sz' := HSz.out.1
  go_region_held3 (fun w' => (w'.cell? ⟨g, 1, none⟩ = some (.int .i64 H) ∧ w'.cell? ⟨s, 0, none⟩ = some (.bool q) ∧ w'.cell? ⟨s, 1, none⟩ = some (.slice a4 n4 c4))) (first | exact n6 | exact o6 | exact keep17 (by omega) (by omega) _ _ _ o6 | go_keep)
    (first
    | (go_at_call 16; with_reducible refine Calls.mono (HOf.out _ ?_) ?_; (focus (repeat (first | exact HRB.out | refine bdrawD ?_ | refine bgrowD ?_ _))); rintro e w6 ⟨ob, oa, ol, oc, rfl, hA, n6⟩)
    | (go_at_call 18; with_reducible refine Calls.mono (HMk.out _ ob oa ol oc ?_) ?_; (exact hA.out); rintro e w7 ⟨zb, za, zl, zc, za', zl', zc', err, rfl, hZ, ⟨r0, r1, r2, f0, f1, f2⟩, o6⟩))
  all_goals
    clear HOf HMk HRB hA
    go_wp2_with fail
    obtain ⟨zs, zs', hZ1, hZ2, hTold, hb7⟩ := hZ.out
    have hRc : Cell3 w7 (g + 1) false none 0 0 none 0 0 := ⟨r0, r1, r2, f0, f1, f2⟩
    have k1 := Nums.put3 hRc hZ1 (.bool zb) (.slice za zl zc) (.slice za' zl' zc')
    have k2 := Nums.put3 hRc hZ2 (.bool zb) (.slice za zl zc) (.slice za' zl' zc')
    have hBB := put3_below (bthen HSz.out.2 hb7) (g := g + 1) (by rw [HG.out]; omega) (.bool zb) (.slice za zl zc) (.slice za' zl' zc')
    exact bodyPost_ret (v := .tuple #[.agg #[.bool zb, .slice za zl zc, .slice za' zl' zc'], .int .i64 err]) (by simp [results, Try.results8, go_sem, r0, r1, r2]) rfl ⟨fun _ => ⟨zb, za, zl, zc, za', zl', zc', zs, zs', err, rfl, ⟨k1, k2⟩, hTold, hBB⟩, fun e => absurd HP.out.1 e⟩
end Go.Proofs.Ytchmlfjjgehbkaa

namespace Go.Proofs.Ytchmlfjjgehbkaa
open Go.RowKit

def RightT17 (G H A B : Int) (w : World) (e : Ending) (w' : World) : Prop := ∃ x y b, e = .returned (.tuple #[.agg #[.int .i64 x, .int .i64 y], .bool b]) ∧ (b = true ↔ SumOk G H ∧ SumOk A B ∧ SumOk (A - G) (B - H)) ∧ (b = true → x = A - G ∧ y = B - H) ∧ Below w.heap.size w w'
theorem put2_below17 {B : Nat} {a w : World} (h : Below B a w) {g : Nat} (hg : B ≤ g) (x y : Value) : Below B a ((w.setCell ⟨g, 0, none⟩ x).setCell ⟨g, 1, none⟩ y) :=
  (h.setCell hg _).setCell hg _
/-- The cells of a variable that holds sums, and that may be stored to. -/
structure SCell17 (w : World) (g : Nat) (x y : Int) : Prop where
  c0 : w.cell? ⟨g, 0, none⟩ = some (.int .i64 x)
  c1 : w.cell? ⟨g, 1, none⟩ = some (.int .i64 y)
  f0 : w.frozen? ⟨g, 0, none⟩ = false
  f1 : w.frozen? ⟨g, 1, none⟩ = false
theorem SCell17.lt {w : World} {g : Nat} {x y : Int} (h : SCell17 w g x y) : g < w.heap.size := World.block_lt_of_cell? _ _ h.c0
theorem SCell17.below {w w' : World} {g : Nat} {x y : Int} (h : SCell17 w g x y) (hb : Below w.heap.size w w') : SCell17 w' g x y :=
  ⟨bkeep hb h.c0 rfl, bkeep hb h.c1 rfl, ((bcell hb).2 _ _ h.lt).trans h.f0, ((bcell hb).2 _ _ h.lt).trans h.f1⟩
theorem SCell17.new (w : World) (x y : Int) : SCell17 (w.alloc (.cells #[.int .i64 x, .int .i64 y] 23)) w.heap.size x y :=
  ⟨by simp, by simp, by simp, by simp⟩
end Go.Proofs.Ytchmlfjjgehbkaa

namespace Go.Proofs.Ytchmlfjjgehbkaa
open Go.RowKit

/-- A fraction lies there, in lowest terms. -/
def FrAt17 (w : World) (m : Bool) (p : Option Addr) (l c : Nat) (p' : Option Addr) (l' c' : Nat) (q : Q17) : Prop := ∃ us vs, Nums w p l c us ∧ Nums w p' l' c' vs ∧ IsW m us (numF q.1 q.2) ∧ IsN vs (denF q.1 q.2)
theorem FrAt17.below {w w' : World} {m : Bool} {p : Option Addr} {l c : Nat} {p' : Option Addr} {l' c' : Nat} {q : Q17} (h : FrAt17 w m p l c p' l' c' q) (hb : Below w.heap.size w w') : FrAt17 w' m p l c p' l' c' q := by
  obtain ⟨us, vs, h1, h2, h3⟩ := h
  exact ⟨us, vs, h1.below hb, h2.below hb, h3⟩
theorem FT17.ok {P : Prop} {q : Q17} {w : World} {e : Ending} {w' : World} (h : FT17 P q w e w') (hp : P) : ∃ m p l c p' l' c', e = .returned (.tuple #[.agg #[.bool m, .slice p l c, .slice p' l' c'], .int .i64 0]) ∧ FrAt17 w' m p l c p' l' c' q ∧ Below w.heap.size w w' := by
  obtain ⟨m, p, l, c, p', l', c', us, vs, err, he, ⟨h1, h2⟩, ht, hb⟩ := h.1 hp
  rcases ht with ⟨e1, e2, -, -⟩ | ⟨-, ⟨h3, h4⟩, rfl⟩
  · cases e2
  · exact ⟨m, p, l, c, p', l', c', he, ⟨us, vs, h1, h2, h3, h4⟩, hb⟩
theorem right_low17 {q : Q17} (h0 : 0 < q.2) (h1 : q.1.natAbs < 18446744073709551616 ^ 16) (h2 : q.2 < 18446744073709551616 ^ 16) {m : Bool} {us vs : List Int} (hW : IsW m us (numF q.1 q.2)) (hN : IsN vs (denF q.1 q.2)) : rightF m us vs = true :=
  right_of8 hW hN (Nat.lt_of_le_of_lt (numF_le17 _ _) h1) (Nat.lt_of_le_of_lt (denF_le17 _ _) h2) (den_pos h0) (num_den h0)
end Go.Proofs.Ytchmlfjjgehbkaa

namespace Go.Proofs.Ytchmlfjjgehbkaa
open Go.RowKit

end Go.Proofs.Ytchmlfjjgehbkaa

namespace Go.Proofs.Ytchmlfjjgehbkaa
open Go.RowKit

end Go.Proofs.Ytchmlfjjgehbkaa
