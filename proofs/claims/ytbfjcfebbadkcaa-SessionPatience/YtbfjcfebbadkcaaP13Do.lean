/-
  Stage 13's laws: two sessions side by side; an act. Written by mk/p13.py.
-/
import Derived.Test.YtbfjcfebbadkcaaRef13F
import Derived.Test.YtbfjcfebbadkcaaW12B
namespace Go.Proofs.Ytbfjcfebbadkcaa
open Go.RowKit

/-- Two sessions, their blocks apart and new. -/
structure K13 (At Bt : World → Nat → SS → (Nat → Prop) → Prop) (w : World) (g0 g1 : Nat) (s0 s1 : SS) (T0 T1 : Nat → Prop) (wx : World) : Prop where
  e0 : At wx g0 s0 T0
  e1 : Bt wx g1 s1 T1
  apart : ∀ b, T0 b → ¬ T1 b
  new : ∀ b, T0 b ∨ T1 b → w.heap.size ≤ b
  below : Below w.heap.size w wx
def T13 (At Bt : World → Nat → SS → (Nat → Prop) → Prop) (w : World) (g0 g1 : Nat) (s0 s1 : SS) (wx : World) : Prop := ∃ T0 T1, K13 At Bt w g0 g1 s0 s1 T0 T1 wx
theorem K13.turn {At Bt : World → Nat → SS → (Nat → Prop) → Prop} {w wx : World} {g0 g1 : Nat} {s0 s1 : SS} {T0 T1 : Nat → Prop} (h : K13 At Bt w g0 g1 s0 s1 T0 T1 wx) : K13 Bt At w g1 g0 s1 s0 T1 T0 wx := ⟨h.e1, h.e0, fun b h1 h2 => h.apart b h2 h1, fun b hb => h.new b hb.symm, h.below⟩
theorem K13.grow {At Bt : World → Nat → SS → (Nat → Prop) → Prop} (A : SesKept13 At) (B : SesKept13 Bt) {w wx wy : World} {g0 g1 : Nat} {s0 s1 : SS} {T0 T1 : Nat → Prop} (h : K13 At Bt w g0 g1 s0 s1 T0 T1 wx) (hb : Below wx.heap.size wx wy) : K13 At Bt w g0 g1 s0 s1 T0 T1 wy := ⟨A.below h.e0 hb, B.below h.e1 hb, h.apart, h.new, h.below.trans (hb.mono h.below.size)⟩
/-- A call on the first one. -/
theorem K13.on {At Bt : World → Nat → SS → (Nat → Prop) → Prop} (B : SesKept13 Bt) {w wx wy : World} {g0 g1 : Nat} {s0 s1 s' : SS} {T0 T1 : Nat → Prop} (h : K13 At Bt w g0 g1 s0 s1 T0 T1 wx) (hE : SesT13 At wx g0 s' T0 wy) : ∃ T', K13 At Bt w g0 g1 s' s1 T' T1 wy := by
  obtain ⟨T', h1, h2, h3⟩ := hE
  refine ⟨T', ⟨h1, B.other h.e1 h2 (fun b e => h.apart b e), fun b e q => ?_, fun b e => ?_, h.below.trans (h2.below (fun b e => h.new b (.inl e)) h.below.size)⟩⟩
  · rcases h3 b e with r | r
    · exact h.apart b r q
    · have := (B.foot h.e1).2 b q
      omega
  · rcases e with e | e
    · rcases h3 b e with r | r
      · exact h.new b (.inl r)
      · exact Nat.le_trans h.below.size r
    · exact h.new b (.inr e)
theorem T13.below {At Bt : World → Nat → SS → (Nat → Prop) → Prop} {w wx : World} {g0 g1 : Nat} {s0 s1 : SS} (h : T13 At Bt w g0 g1 s0 s1 wx) : Below w.heap.size w wx := by
  obtain ⟨T0, T1, h⟩ := h
  exact h.below
theorem T13.grow {At Bt : World → Nat → SS → (Nat → Prop) → Prop} (A : SesKept13 At) (B : SesKept13 Bt) {w wx wy : World} {g0 g1 : Nat} {s0 s1 : SS} (h : T13 At Bt w g0 g1 s0 s1 wx) (hb : Below wx.heap.size wx wy) : T13 At Bt w g0 g1 s0 s1 wy := by
  obtain ⟨T0, T1, h⟩ := h
  exact ⟨T0, T1, h.grow A B hb⟩
theorem act_e0 (s : SS) (p n a : Int) (ks : List Int) : s.act 0 p n a ks = s.await p ks ∧ s.actE 0 p n ks = s.awaitE p ks := ⟨rfl, rfl⟩
theorem act_e1 (s : SS) (p n a : Int) (ks : List Int) : s.act 1 p n a ks = s.take p n a ∧ s.actE 1 p n ks = s.takeE p n := ⟨rfl, rfl⟩
theorem act_e2 (s : SS) (p n a : Int) (ks : List Int) : s.act 2 p n a ks = s.tick n ∧ s.actE 2 p n ks = s.tickE n := ⟨rfl, rfl⟩
theorem act_e3 (s : SS) (p n a : Int) (ks : List Int) : s.act 3 p n a ks = s.finish ∧ s.actE 3 p n ks = s.finishE := ⟨rfl, rfl⟩
theorem act_e4 (s : SS) (p n a : Int) (ks : List Int) : s.act 4 p n a ks = s.abort n ∧ s.actE 4 p n ks = s.abortE n := ⟨rfl, rfl⟩
theorem act_e5 (s : SS) (d p n a : Int) (ks : List Int) (h : d ≠ 0 ∧ d ≠ 1 ∧ d ≠ 2 ∧ d ≠ 3 ∧ d ≠ 4) : s.act d p n a ks = s ∧ s.actE d p n ks = 0 := by
  obtain ⟨h0, h1, h2, h3, h4⟩ := h
  unfold SS.act SS.actE
  rw [if_neg h0, if_neg h1, if_neg h2, if_neg h3, if_neg h4, if_neg h0, if_neg h1, if_neg h2, if_neg h3, if_neg h4]
  exact ⟨rfl, rfl⟩

set_option maxRecDepth 20000 in
set_option maxHeartbeats 12800000 in
theorem do13_any {At : World → Nat → SS → (Nat → Prop) → Prop} (A : SesOk13 ⟨6, 15, 17, 19, 21, 14, 9, 11⟩ At) (g0 g1 : Nat) (s0 s1 : SS) (d p n a : Int) (ka : Option Addr) (kl kc : Nat) (ks : List Int) (w W : World) (h : T13 At RSes w g0 g1 s0 s1 W) (hp : (-9223372036854775808 ≤ p ∧ p < 9223372036854775808)) (hn : (-9223372036854775808 ≤ n ∧ n < 9223372036854775808)) (ha : (-9223372036854775808 ≤ a ∧ a < 9223372036854775808)) (hL : Lsts w ka kl kc ks) (hnil : ka = none → kc = 0) (hl : kl ≤ 17592186044416) :
    Calls Try.prog 8 #[.pointer (some ⟨g0, 0, none⟩), .pointer (some ⟨g1, 0, none⟩), .agg #[.int .i64 d, .int .i64 p, .int .i64 n, .int .i64 a, .slice ka kl kc]] W fun e w' => e = .returned (.bool (s0.actE d p n ks == s1.actE d p n ks)) ∧ T13 At RSes w g0 g1 (s0.act d p n a ks) (s1.act d p n a ks) w' := by
  have hV := bthen (balloc W (.cells #[.int .i64 d, .int .i64 p, .int .i64 n, .int .i64 a, .slice ka kl kc] 34)) (balloc (W.alloc (.cells #[.int .i64 d, .int .i64 p, .int .i64 n, .int .i64 a, .slice ka kl kc] 34)) (.cells #[.int .i64 n, .int .i64 a, .int .i64 0, .int .i64 0, .slice none 0 0, .slice none 0 0, .slice none 0 0] 54))
  obtain ⟨V, hVe⟩ : ∃ V, V = (W.alloc (.cells #[.int .i64 d, .int .i64 p, .int .i64 n, .int .i64 a, .slice ka kl kc] 34)).alloc (.cells #[.int .i64 n, .int .i64 a, .int .i64 0, .int .i64 0, .slice none 0 0, .slice none 0 0, .slice none 0 0] 54) := ⟨_, rfl⟩
  have HVe : Hid (V = (W.alloc (.cells #[.int .i64 d, .int .i64 p, .int .i64 n, .int .i64 a, .slice ka kl kc] 34)).alloc (.cells #[.int .i64 n, .int .i64 a, .int .i64 0, .int .i64 0, .slice none 0 0, .slice none 0 0, .slice none 0 0] 54)) := hVe
  obtain ⟨G, hG⟩ : ∃ G, G = W.heap.size := ⟨_, rfl⟩
  have HG : Hid (G = W.heap.size) := hG
  have x0 : V.cell? ⟨G, 0, none⟩ = some (.int .i64 d) := by rw [hVe, hG]; simp
  have x1 : V.cell? ⟨G, 1, none⟩ = some (.int .i64 p) := by rw [hVe, hG]; simp
  have x2 : V.cell? ⟨G, 2, none⟩ = some (.int .i64 n) := by rw [hVe, hG]; simp
  have x3 : V.cell? ⟨G, 3, none⟩ = some (.int .i64 a) := by rw [hVe, hG]; simp
  have x4 : V.cell? ⟨G, 4, none⟩ = some (.slice ka kl kc) := by rw [hVe, hG]; simp
  have y0 : V.cell? ⟨G + 1, 0, none⟩ = some (.int .i64 n) := by rw [hVe, hG]; simp
  have y1 : V.cell? ⟨G + 1, 1, none⟩ = some (.int .i64 a) := by rw [hVe, hG]; simp
  have y2 : V.cell? ⟨G + 1, 2, none⟩ = some (.int .i64 0) := by rw [hVe, hG]; simp
  have y3 : V.cell? ⟨G + 1, 3, none⟩ = some (.int .i64 0) := by rw [hVe, hG]; simp
  have y4 : V.cell? ⟨G + 1, 4, none⟩ = some (.slice none 0 0) := by rw [hVe, hG]; simp
  have y5 : V.cell? ⟨G + 1, 5, none⟩ = some (.slice none 0 0) := by rw [hVe, hG]; simp
  have y6 : V.cell? ⟨G + 1, 6, none⟩ = some (.slice none 0 0) := by rw [hVe, hG]; simp
  rw [← hVe] at hV
  obtain ⟨T0, T1, hK0⟩ := h
  have HO : Hid (∀ b, T0 b → b < G) := fun b e => by rw [hG]; exact (A.foot hK0.e0).2 b e
  have HK : Hid (K13 At RSes w g0 g1 s0 s1 T0 T1 V) := hK0.grow A.toSesKept13 rses_kept hV
  have HL : Hid (Lsts w ka kl kc ks) := hL
  have hkc := hL.hcap
  have hkm := hL.hmax
  unfold maxLen at hkm
  clear hL hV hVe hG hK0
  go_enter Try.func8, Try.ntmps8
  go_upto_region 2 with fail
  rw [← HVe.out, ← HG.out]
  by_cases d0 : d = 0
  · subst d0
    have HC0 := (show Hid _ from A.await g0 s0 T0 p ka kl kc ks V HK.out.e0 hp (HL.out.below HK.out.below) hnil hl)
    obtain ⟨E0, hE0⟩ : ∃ E, E = s0.awaitE p ks := ⟨_, rfl⟩
    obtain ⟨E1, hE1⟩ : ∃ E, E = s1.awaitE p ks := ⟨_, rfl⟩
    have HE : Hid (E0 = s0.actE 0 p n ks ∧ E1 = s1.actE 0 p n ks) := ⟨hE0, hE1⟩
    rw [← hE0] at HC0
    clear hE0
    go_wp2_with fail
    refine Calls.mono HC0.out ?_
    rintro e w1 ⟨rfl, hE⟩
    have hO : Only T0 V w1 := by obtain ⟨_, _, q, _⟩ := hE; exact q
    obtain ⟨T2, hK1⟩ := HK.out.on rses_kept hE
    have HC1 := (show Hid _ from rses_ok.await g1 s1 T1 p ka kl kc ks w1 hK1.e1 hp (HL.out.below hK1.below) hnil hl)
    rw [← hE1] at HC1
    have HK1 : Hid (K13 At RSes w g0 g1 (s0.act 0 p n a ks) s1 T2 T1 w1) := hK1
    replace x0 := hO.cell x0 (fun e => by have := HO.out _ e; simp at this)
    replace x1 := hO.cell x1 (fun e => by have := HO.out _ e; simp at this)
    replace x2 := hO.cell x2 (fun e => by have := HO.out _ e; simp at this)
    replace x3 := hO.cell x3 (fun e => by have := HO.out _ e; simp at this)
    replace x4 := hO.cell x4 (fun e => by have := HO.out _ e; simp at this)
    replace y0 := hO.cell y0 (fun e => by have := HO.out _ e; simp at this; omega)
    replace y1 := hO.cell y1 (fun e => by have := HO.out _ e; simp at this; omega)
    replace y2 := hO.cell y2 (fun e => by have := HO.out _ e; simp at this; omega)
    replace y3 := hO.cell y3 (fun e => by have := HO.out _ e; simp at this; omega)
    replace y4 := hO.cell y4 (fun e => by have := HO.out _ e; simp at this; omega)
    replace y5 := hO.cell y5 (fun e => by have := HO.out _ e; simp at this; omega)
    replace y6 := hO.cell y6 (fun e => by have := HO.out _ e; simp at this; omega)
    clear hE1 HC0 hE hO hK1 HK
    dsimp only
    go_wp2_with fail
    refine Calls.mono HC1.out ?_
    rintro e w2 ⟨rfl, hE⟩
    have HF : Hid (T13 At RSes w g0 g1 (s0.act 0 p n a ks) (s1.act 0 p n a ks) w2) := by
      obtain ⟨T3, hK2⟩ := HK1.out.turn.on A.toSesKept13 hE
      exact ⟨T2, T3, hK2.turn⟩
    clear HC1 hE HK1 x0 x1 x2 x3 x4 y0 y1 y2 y3 y4 y5 y6
    dsimp only
    go_wp2
    go_ret
    exact ⟨by rw [← HE.out.1, ← HE.out.2]; rfl, HF.out⟩
  have n0 : (d == 0) = false := by simp [d0]
  by_cases d1 : d = 1
  · subst d1
    have HC0 := (show Hid _ from A.take g0 s0 T0 p n a 0 0 none none none 0 0 0 0 0 0 V HK.out.e0 hp hn ha)
    obtain ⟨E0, hE0⟩ : ∃ E, E = s0.takeE p n := ⟨_, rfl⟩
    obtain ⟨E1, hE1⟩ : ∃ E, E = s1.takeE p n := ⟨_, rfl⟩
    have HE : Hid (E0 = s0.actE 1 p n ks ∧ E1 = s1.actE 1 p n ks) := ⟨hE0, hE1⟩
    rw [← hE0] at HC0
    clear hE0
    go_wp2_with fail
    refine Calls.mono HC0.out ?_
    rintro e w1 ⟨rfl, hE⟩
    have hO : Only T0 V w1 := by obtain ⟨_, _, q, _⟩ := hE; exact q
    obtain ⟨T2, hK1⟩ := HK.out.on rses_kept hE
    have HC1 := (show Hid _ from rses_ok.take g1 s1 T1 p n a 0 0 none none none 0 0 0 0 0 0 w1 hK1.e1 hp hn ha)
    rw [← hE1] at HC1
    have HK1 : Hid (K13 At RSes w g0 g1 (s0.act 1 p n a ks) s1 T2 T1 w1) := hK1
    replace x0 := hO.cell x0 (fun e => by have := HO.out _ e; simp at this)
    replace x1 := hO.cell x1 (fun e => by have := HO.out _ e; simp at this)
    replace x2 := hO.cell x2 (fun e => by have := HO.out _ e; simp at this)
    replace x3 := hO.cell x3 (fun e => by have := HO.out _ e; simp at this)
    replace x4 := hO.cell x4 (fun e => by have := HO.out _ e; simp at this)
    replace y0 := hO.cell y0 (fun e => by have := HO.out _ e; simp at this; omega)
    replace y1 := hO.cell y1 (fun e => by have := HO.out _ e; simp at this; omega)
    replace y2 := hO.cell y2 (fun e => by have := HO.out _ e; simp at this; omega)
    replace y3 := hO.cell y3 (fun e => by have := HO.out _ e; simp at this; omega)
    replace y4 := hO.cell y4 (fun e => by have := HO.out _ e; simp at this; omega)
    replace y5 := hO.cell y5 (fun e => by have := HO.out _ e; simp at this; omega)
    replace y6 := hO.cell y6 (fun e => by have := HO.out _ e; simp at this; omega)
    clear hE1 HC0 hE hO hK1 HK
    dsimp only
    go_wp2_with fail
    refine Calls.mono HC1.out ?_
    rintro e w2 ⟨rfl, hE⟩
    have HF : Hid (T13 At RSes w g0 g1 (s0.act 1 p n a ks) (s1.act 1 p n a ks) w2) := by
      obtain ⟨T3, hK2⟩ := HK1.out.turn.on A.toSesKept13 hE
      exact ⟨T2, T3, hK2.turn⟩
    clear HC1 hE HK1 x0 x1 x2 x3 x4 y0 y1 y2 y3 y4 y5 y6
    dsimp only
    go_wp2
    go_ret
    exact ⟨by rw [← HE.out.1, ← HE.out.2]; rfl, HF.out⟩
  have n1 : (d == 1) = false := by simp [d1]
  by_cases d2 : d = 2
  · subst d2
    have HC0 := (show Hid _ from A.tick g0 s0 T0 n V HK.out.e0 hn)
    obtain ⟨E0, hE0⟩ : ∃ E, E = s0.tickE n := ⟨_, rfl⟩
    obtain ⟨E1, hE1⟩ : ∃ E, E = s1.tickE n := ⟨_, rfl⟩
    have HE : Hid (E0 = s0.actE 2 p n ks ∧ E1 = s1.actE 2 p n ks) := ⟨hE0, hE1⟩
    rw [← hE0] at HC0
    clear hE0
    go_wp2_with fail
    refine Calls.mono HC0.out ?_
    rintro e w1 ⟨rfl, hE⟩
    have hO : Only T0 V w1 := by obtain ⟨_, _, q, _⟩ := hE; exact q
    obtain ⟨T2, hK1⟩ := HK.out.on rses_kept hE
    have HC1 := (show Hid _ from rses_ok.tick g1 s1 T1 n w1 hK1.e1 hn)
    rw [← hE1] at HC1
    have HK1 : Hid (K13 At RSes w g0 g1 (s0.act 2 p n a ks) s1 T2 T1 w1) := hK1
    replace x0 := hO.cell x0 (fun e => by have := HO.out _ e; simp at this)
    replace x1 := hO.cell x1 (fun e => by have := HO.out _ e; simp at this)
    replace x2 := hO.cell x2 (fun e => by have := HO.out _ e; simp at this)
    replace x3 := hO.cell x3 (fun e => by have := HO.out _ e; simp at this)
    replace x4 := hO.cell x4 (fun e => by have := HO.out _ e; simp at this)
    replace y0 := hO.cell y0 (fun e => by have := HO.out _ e; simp at this; omega)
    replace y1 := hO.cell y1 (fun e => by have := HO.out _ e; simp at this; omega)
    replace y2 := hO.cell y2 (fun e => by have := HO.out _ e; simp at this; omega)
    replace y3 := hO.cell y3 (fun e => by have := HO.out _ e; simp at this; omega)
    replace y4 := hO.cell y4 (fun e => by have := HO.out _ e; simp at this; omega)
    replace y5 := hO.cell y5 (fun e => by have := HO.out _ e; simp at this; omega)
    replace y6 := hO.cell y6 (fun e => by have := HO.out _ e; simp at this; omega)
    clear hE1 HC0 hE hO hK1 HK
    dsimp only
    go_wp2_with fail
    refine Calls.mono HC1.out ?_
    rintro e w2 ⟨rfl, hE⟩
    have HF : Hid (T13 At RSes w g0 g1 (s0.act 2 p n a ks) (s1.act 2 p n a ks) w2) := by
      obtain ⟨T3, hK2⟩ := HK1.out.turn.on A.toSesKept13 hE
      exact ⟨T2, T3, hK2.turn⟩
    clear HC1 hE HK1 x0 x1 x2 x3 x4 y0 y1 y2 y3 y4 y5 y6
    dsimp only
    go_wp2
    go_ret
    exact ⟨by rw [← HE.out.1, ← HE.out.2]; rfl, HF.out⟩
  have n2 : (d == 2) = false := by simp [d2]
  by_cases d3 : d = 3
  · subst d3
    have HC0 := (show Hid _ from A.finish g0 s0 T0 V HK.out.e0 )
    obtain ⟨E0, hE0⟩ : ∃ E, E = s0.finishE := ⟨_, rfl⟩
    obtain ⟨E1, hE1⟩ : ∃ E, E = s1.finishE := ⟨_, rfl⟩
    have HE : Hid (E0 = s0.actE 3 p n ks ∧ E1 = s1.actE 3 p n ks) := ⟨hE0, hE1⟩
    rw [← hE0] at HC0
    clear hE0
    go_wp2_with fail
    refine Calls.mono HC0.out ?_
    rintro e w1 ⟨rfl, hE⟩
    have hO : Only T0 V w1 := by obtain ⟨_, _, q, _⟩ := hE; exact q
    obtain ⟨T2, hK1⟩ := HK.out.on rses_kept hE
    have HC1 := (show Hid _ from rses_ok.finish g1 s1 T1 w1 hK1.e1 )
    rw [← hE1] at HC1
    have HK1 : Hid (K13 At RSes w g0 g1 (s0.act 3 p n a ks) s1 T2 T1 w1) := hK1
    replace x0 := hO.cell x0 (fun e => by have := HO.out _ e; simp at this)
    replace x1 := hO.cell x1 (fun e => by have := HO.out _ e; simp at this)
    replace x2 := hO.cell x2 (fun e => by have := HO.out _ e; simp at this)
    replace x3 := hO.cell x3 (fun e => by have := HO.out _ e; simp at this)
    replace x4 := hO.cell x4 (fun e => by have := HO.out _ e; simp at this)
    replace y0 := hO.cell y0 (fun e => by have := HO.out _ e; simp at this; omega)
    replace y1 := hO.cell y1 (fun e => by have := HO.out _ e; simp at this; omega)
    replace y2 := hO.cell y2 (fun e => by have := HO.out _ e; simp at this; omega)
    replace y3 := hO.cell y3 (fun e => by have := HO.out _ e; simp at this; omega)
    replace y4 := hO.cell y4 (fun e => by have := HO.out _ e; simp at this; omega)
    replace y5 := hO.cell y5 (fun e => by have := HO.out _ e; simp at this; omega)
    replace y6 := hO.cell y6 (fun e => by have := HO.out _ e; simp at this; omega)
    clear hE1 HC0 hE hO hK1 HK
    dsimp only
    go_wp2_with fail
    refine Calls.mono HC1.out ?_
    rintro e w2 ⟨rfl, hE⟩
    have HF : Hid (T13 At RSes w g0 g1 (s0.act 3 p n a ks) (s1.act 3 p n a ks) w2) := by
      obtain ⟨T3, hK2⟩ := HK1.out.turn.on A.toSesKept13 hE
      exact ⟨T2, T3, hK2.turn⟩
    clear HC1 hE HK1 x0 x1 x2 x3 x4 y0 y1 y2 y3 y4 y5 y6
    dsimp only
    go_wp2
    go_ret
    exact ⟨by rw [← HE.out.1, ← HE.out.2]; rfl, HF.out⟩
  have n3 : (d == 3) = false := by simp [d3]
  by_cases d4 : d = 4
  · subst d4
    have HC0 := (show Hid _ from A.abort g0 s0 T0 n V HK.out.e0 hn)
    obtain ⟨E0, hE0⟩ : ∃ E, E = s0.abortE n := ⟨_, rfl⟩
    obtain ⟨E1, hE1⟩ : ∃ E, E = s1.abortE n := ⟨_, rfl⟩
    have HE : Hid (E0 = s0.actE 4 p n ks ∧ E1 = s1.actE 4 p n ks) := ⟨hE0, hE1⟩
    rw [← hE0] at HC0
    clear hE0
    go_wp2_with fail
    refine Calls.mono HC0.out ?_
    rintro e w1 ⟨rfl, hE⟩
    have hO : Only T0 V w1 := by obtain ⟨_, _, q, _⟩ := hE; exact q
    obtain ⟨T2, hK1⟩ := HK.out.on rses_kept hE
    have HC1 := (show Hid _ from rses_ok.abort g1 s1 T1 n w1 hK1.e1 hn)
    rw [← hE1] at HC1
    have HK1 : Hid (K13 At RSes w g0 g1 (s0.act 4 p n a ks) s1 T2 T1 w1) := hK1
    replace x0 := hO.cell x0 (fun e => by have := HO.out _ e; simp at this)
    replace x1 := hO.cell x1 (fun e => by have := HO.out _ e; simp at this)
    replace x2 := hO.cell x2 (fun e => by have := HO.out _ e; simp at this)
    replace x3 := hO.cell x3 (fun e => by have := HO.out _ e; simp at this)
    replace x4 := hO.cell x4 (fun e => by have := HO.out _ e; simp at this)
    replace y0 := hO.cell y0 (fun e => by have := HO.out _ e; simp at this; omega)
    replace y1 := hO.cell y1 (fun e => by have := HO.out _ e; simp at this; omega)
    replace y2 := hO.cell y2 (fun e => by have := HO.out _ e; simp at this; omega)
    replace y3 := hO.cell y3 (fun e => by have := HO.out _ e; simp at this; omega)
    replace y4 := hO.cell y4 (fun e => by have := HO.out _ e; simp at this; omega)
    replace y5 := hO.cell y5 (fun e => by have := HO.out _ e; simp at this; omega)
    replace y6 := hO.cell y6 (fun e => by have := HO.out _ e; simp at this; omega)
    clear hE1 HC0 hE hO hK1 HK
    dsimp only
    go_wp2_with fail
    refine Calls.mono HC1.out ?_
    rintro e w2 ⟨rfl, hE⟩
    have HF : Hid (T13 At RSes w g0 g1 (s0.act 4 p n a ks) (s1.act 4 p n a ks) w2) := by
      obtain ⟨T3, hK2⟩ := HK1.out.turn.on A.toSesKept13 hE
      exact ⟨T2, T3, hK2.turn⟩
    clear HC1 hE HK1 x0 x1 x2 x3 x4 y0 y1 y2 y3 y4 y5 y6
    dsimp only
    go_wp2
    go_ret
    exact ⟨by rw [← HE.out.1, ← HE.out.2]; rfl, HF.out⟩
  have n4 : (d == 4) = false := by simp [d4]
  have HA0 : Hid (s0.act d p n a ks = s0 ∧ s0.actE d p n ks = 0) := act_e5 s0 d p n a ks ⟨d0, d1, d2, d3, d4⟩
  have HA1 : Hid (s1.act d p n a ks = s1 ∧ s1.actE d p n ks = 0) := act_e5 s1 d p n a ks ⟨d0, d1, d2, d3, d4⟩
  clear d0 d1 d2 d3 d4
  go_wp2
  go_ret
  refine ⟨by rw [HA0.out.2, HA1.out.2]; rfl, ?_⟩
  rw [HA0.out.1, HA1.out.1]
  exact ⟨T0, T1, HK.out⟩
end Go.Proofs.Ytbfjcfebbadkcaa
