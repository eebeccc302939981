/-
  The document's Take: the table that is made. Written by mk/r15take.py.
-/
import Derived.Test.YtaiikhbfnfcalaaR15K
import Derived.Deep.RegionHeld3
namespace Go.Proofs.Ytaiikhbfnfcalaa
open Go.RowKit

/-- A whole list is appended to an empty literal. -/
theorem run_appZ (w : World) (ty : TypeId) (b : Nat) {p : Option Addr} {l c : Nat} {ys : List Int} (hL : Lsts w p l c ys) (hl : l < 1000000) :
    ∃ a' c' w', (Builtin.append_ #[22, 22] ty #[.slice (some ⟨b, 0, none⟩) 0 0, .slice p l c]).run Try.prog w = .ok (.slice a' l c') w' ∧ Lsts w' a' l c' ys ∧ Below w.heap.size w w' ∧ (∀ ad, a' = some ad → ad.block = b ∨ w.heap.size ≤ ad.block) ∧ (∀ ad, a' = some ad → ad.block = b ∨ ad.block < w'.heap.size) := by
  obtain ⟨i0, hi, hz0, hz1, hz2⟩ := info_parts Try.infoI
  have hlen := hL.hlen
  rcases Nat.eq_zero_or_pos l with e | e
  · subst e
    have ey : ys = [] := List.eq_nil_of_length_eq_zero hlen
    subst ey
    refine ⟨some ⟨b, 0, none⟩, 0, w, ?_, ⟨rfl, Nat.le_refl _, Nat.zero_le _, fun h => absurd h (Nat.lt_irrefl _), fun x hx => by cases hx⟩, Below.refl _ _, fun ad e => (by cases e; exact .inl rfl), fun ad e => (by cases e; exact .inl rfl)⟩
    cases p with
    | none => simp [Builtin.append_, run_underlying Try.underlying22, sizeOf, typeInfo, hi, Builtin.lenOf, Builtin.firstCells, storeCells]
    | some ad =>
      have hr := run_append_room_cells (P := Try.prog) w 22 ty 3 i0 Try.underlying22 hi b 0 0 0 ad 0 c [] (by simp) (fun j u hj => by simp at hj) (fun u hu => by cases hu) (Nat.le_refl _) (fun j hj => absurd hj (Nat.not_lt_zero _)) (fun j hj => absurd hj (Nat.not_lt_zero _))
      exact hr
  · obtain ⟨bp, off, rfl, hc⟩ := hL.cells e
    obtain ⟨v', w', hr, h2, h3⟩ := run_append_arg_grows (P := Try.prog) w 22 ty 3 i0 (.int .i64 0) 1 8 Try.underlying22 hi hz0 hz1 hz2 rfl (by decide) ⟨b, 0, none⟩ 0 0 [] rfl (fun j u hj => by simp at hj) ⟨bp, off, none⟩ l c (ys.map (Value.int .i64)) (by simp [hlen]) (fun j u hj => by
      have hjl : j < l := by have := (List.getElem?_eq_some_iff.1 hj).1; simp at this; omega
      rw [Addr.add_lit, hc j hjl, ← hj, List.getElem?_map, List.getElem?_eq_getElem (by omega)]
      simp [List.getD, List.getElem?_eq_getElem (show j < ys.length by omega)]) (by omega) (by unfold maxLen; omega) (by omega)
    have hO : IOwn w' w.heap.size v' ys := by
      unfold IOwn
      rw [hlen]
      simpa using h2
    have hlt := World.ownsRow.lt hO
    obtain ⟨a', c', rfl, hL', -⟩ := hO.lsts hL.word
    rw [hlen] at hL' hr hlt
    exact ⟨a', c', w', hr, hL', ⟨h3.os, h3.tape, h3.output, h3.size, fun i hi => h3.block i hi (by simp)⟩, fun ad e => (by subst e; exact .inr (hlt ad.block rfl).1), fun ad e => (by subst e; exact .inr (hlt ad.block rfl).2)⟩
theorem step_appZ (w : World) {ops : Array Oper} {o : Oper} {a : Act} {K : Act → World → Prop} {Q : Exit → Act → World → Prop} {E : Prop} (hgd : o.guard = none) (s x : Operand)
    (ho : o.op = .call { callee := .builtin .append, args := #[s, x], argTypes := #[22, 22] })
    (b : Nat) (hs : a.eval s = .slice (some ⟨b, 0, none⟩) 0 0) (p : Option Addr) (l c : Nat) (ys : List Int) (hx : a.eval x = .slice p l c) (hL : Lsts w p l c ys) (hl : l < 1000000)
    (h : ∀ a' c' w', Lsts w' a' l c' ys → Below w.heap.size w w' → (∀ ad, a' = some ad → ad.block = b ∨ w.heap.size ≤ ad.block) → (∀ ad, a' = some ad → ad.block = b ∨ ad.block < w'.heap.size) → K (a.put o.dst (.slice a' l c')) w') : if Region.wanted o (yielded ops a.tmps) = true then Oper.wp Try.prog o a w K Q else E := by
  rw [if_pos (by simp [Region.wanted, hgd])]
  obtain ⟨a', c', w', hr, h2, h3, h4, h5⟩ := run_appZ w o.type b hL hl
  unfold Oper.wp
  simp [execOp, ho, resolve, invoke, builtin, hs, hx, hr, Result.andThen]
  exact h a' c' w' h2 h3 h4 h5
theorem bst15 {V w : World} {p : Addr} (h : Below V.heap.size V w) (hp : V.heap.size ≤ p.block) (v : Value) : Below V.heap.size V (w.setCell p v) := h.setCell hp v
theorem cut15 {P R : Prop} (p : P) (f : P → R) : R := f p
theorem TVar.go15 {w : World} {g : Nat} {v : TV} (h : TVar w g v) (o : Obj) : TVar (w.alloc o) g v := h.below (balloc w o)
theorem TVar.dr15 {w : World} {g : Nat} {v : TV} (h : TVar w g v) : TVar w.drew g v := h
theorem TVar.at15 {w : World} {g g' : Nat} {v : TV} (h : TVar w g v) (e : g = g') : TVar w g' v := e ▸ h
theorem tvput15 {w : World} {s l0 c0 l1 c1 l2 c2 : Nat} {p0 p1 p2 : Option Addr} {v : TV} (h : TVar w s v) : TVar (((w.setCell ⟨s, 0, none⟩ (.slice p0 l0 c0)).setCell ⟨s, 1, none⟩ (.slice p1 l1 c1)).setCell ⟨s, 2, none⟩ (.slice p2 l2 c2)) s ⟨p0, l0, c0, p1, l1, c1, p2, l2, c2⟩ :=
  heap_setCell_same _ s 2 _ _ (.slice p2 l2 c2) (heap_setCell_same _ s 1 _ _ (.slice p1 l1 c1) (heap_setCell_same w s 0 _ _ (.slice p0 l0 c0) h))
theorem only3_15 {w : World} {s : Nat} (x y z : Value) : Only (fun b => b = s) w (((w.setCell ⟨s, 0, none⟩ x).setCell ⟨s, 1, none⟩ y).setCell ⟨s, 2, none⟩ z) := put3_only x y z
theorem le15 {w w1 wx : World} {s B n c : Nat} {p : Option Addr} {zs : List Int} (h : Lsts w p n c zs) (hb : Below w.heap.size w w1) (k : Only (fun b => b = s) w1 wx) (hp : ∀ ad, p = some ad → B ≤ ad.block ∧ ad.block ≠ s) : LE (fun b => B ≤ b ∧ b ≠ s) wx p n c zs := ⟨lsts_only15 (h.below hb) k (fun ad e => (hp ad e).2), hp⟩
theorem below_cells {w w' : World} (h : Below w.heap.size w w') : (∀ q j, q < w.heap.size → w'.cell? ⟨q, j, none⟩ = w.cell? ⟨q, j, none⟩) ∧ (∀ q j, q < w.heap.size → w'.frozen? ⟨q, j, none⟩ = w.frozen? ⟨q, j, none⟩) := ⟨fun q j hq => World.cell?_of_block (h.block q hq), fun q j hq => by simp only [World.frozen?, h.block q hq]⟩

set_option maxRecDepth 100000 in
set_option maxHeartbeats 12800000 in
theorem tk_p5 {x0 x3 x4 x5 x6 x7 x8 x9 x10 x11 x12 x13 x14 x15 x16 x17 x18 x19 x20 x21 x22 x23 x24 x25 x26 x27 x28 x29 x30 x31 x32 x33 x34 x35 x36 x37 x38 x39 x40 x41 x42 x43 x44 x45 x46 x47 x48 x49 x50 x51 x52 x53 x54 x55 x56 x57 x58 x59 x60 x61 x62 x63 x64 x65 x66 x67 x68 x69 x70 x71 x72 x73 x74 x75 x76 x77 x78 x79 x80 x81 x82 x83 : Value} {Q : Exit → Act → World → Prop} {W : World} {g l c : Nat} {p : Option Addr} {v : TV} {xs bs : List Int} (hv : TVar W g v) (hL : Lsts W p l c xs) (hB : Lsts W v.p1 v.l1 v.c1 bs) (hl : l ≤ 256) (hb : v.l1 ≤ 16)
    (hN : ∀ (u : TV) (s : Nat) (wx : World) (y24 y25 y26 y27 y28 y29 y30 y31 : Value), TVar wx s u → LE (fun b => W.heap.size ≤ b ∧ b ≠ s) wx u.p0 u.l0 u.c0 xs → LE (fun b => W.heap.size ≤ b ∧ b ≠ s) wx u.p1 u.l1 u.c1 bs → u.p2 = none → u.l2 = 0 → u.c2 = 0 → W.heap.size ≤ s → Below W.heap.size W wx → Q .normal ⟨#[x0, .slice p l c, .pointer (some ⟨g, 0, none⟩), x3, x4, x5, x6, x7, .pointer (some ⟨s, 0, none⟩), x9, x10, x11, x12, x13, x14, x15, x16, x17, x18, x19, x20, x21, x22, x23, y24, y25, y26, y27, y28, y29, y30, y31, x32, x33, x34, x35, x36, x37, x38, x39, x40, x41, x42, x43, x44, x45, x46, x47, x48, x49, x50, x51, x52, x53, x54, x55, x56, x57, x58, x59, x60, x61, x62, x63, x64, x65, x66, x67, x68, x69, x70, x71, x72, x73, x74, x75, x76, x77, x78, x79, x80, x81, x82, x83], []⟩ wx) :
    Code.wp Try.prog ((Try.f16.body.bind (pcAt 5)).getD .skip) Q ⟨#[x0, .slice p l c, .pointer (some ⟨g, 0, none⟩), x3, x4, x5, x6, x7, x8, x9, x10, x11, x12, x13, x14, x15, x16, x17, x18, x19, x20, x21, x22, x23, x24, x25, x26, x27, x28, x29, x30, x31, x32, x33, x34, x35, x36, x37, x38, x39, x40, x41, x42, x43, x44, x45, x46, x47, x48, x49, x50, x51, x52, x53, x54, x55, x56, x57, x58, x59, x60, x61, x62, x63, x64, x65, x66, x67, x68, x69, x70, x71, x72, x73, x74, x75, x76, x77, x78, x79, x80, x81, x82, x83], []⟩ W := by
  conv => arg 2; whnf
  have HN : Hid (∀ (u : TV) (s : Nat) (wx : World) (y24 y25 y26 y27 y28 y29 y30 y31 : Value), TVar wx s u → LE (fun b => W.heap.size ≤ b ∧ b ≠ s) wx u.p0 u.l0 u.c0 xs → LE (fun b => W.heap.size ≤ b ∧ b ≠ s) wx u.p1 u.l1 u.c1 bs → u.p2 = none → u.l2 = 0 → u.c2 = 0 → W.heap.size ≤ s → Below W.heap.size W wx → Q .normal ⟨#[x0, .slice p l c, .pointer (some ⟨g, 0, none⟩), x3, x4, x5, x6, x7, .pointer (some ⟨s, 0, none⟩), x9, x10, x11, x12, x13, x14, x15, x16, x17, x18, x19, x20, x21, x22, x23, y24, y25, y26, y27, y28, y29, y30, y31, x32, x33, x34, x35, x36, x37, x38, x39, x40, x41, x42, x43, x44, x45, x46, x47, x48, x49, x50, x51, x52, x53, x54, x55, x56, x57, x58, x59, x60, x61, x62, x63, x64, x65, x66, x67, x68, x69, x70, x71, x72, x73, x74, x75, x76, x77, x78, x79, x80, x81, x82, x83], []⟩ wx) := hN
  clear hN
  have c1 := hv.cells.2.1
  have hgl := hv.lt
  have n0 : W.heap.size ≠ g := by omega
  have n1 : W.heap.size + 1 ≠ g := by omega
  have n2 : W.heap.size + 2 ≠ g := by omega
  have n3 : W.heap.size + 3 ≠ g := by omega
  have k0 := n0.symm
  have k1 := n1.symm
  have k2 := n2.symm
  have k3 := n3.symm
  have HLx : Hid (∀ wx, Below W.heap.size W wx → Lsts wx p l c xs) := fun wx h => hL.below h
  have HLb : Hid (∀ wx, Below W.heap.size W wx → Lsts wx v.p1 v.l1 v.c1 bs) := fun wx h => hB.below h
  have HZ : Hid (l < 1000000 ∧ v.l1 < 1000000) := ⟨by omega, by omega⟩
  have HW : Hid (∀ w1 w5, Below W.heap.size W w1 → Below w1.heap.size w1 w5 → Below W.heap.size W w5 ∧ w5.cell? ⟨g, 1, none⟩ = some (.slice v.p1 v.l1 v.c1) ∧ w5.heap.size ≠ g ∧ w5.heap.size + 1 ≠ g ∧ w5.heap.size + 2 ≠ g ∧ g ≠ w5.heap.size ∧ g ≠ w5.heap.size + 1 ∧ g ≠ w5.heap.size + 2) := fun w1 w5 h1 h5 => ⟨bthen h1 h5, (hv.below (bthen h1 h5)).cells.2.1, by have := (bthen h1 h5).size; omega, by have := (bthen h1 h5).size; omega, by have := (bthen h1 h5).size; omega, by have := (bthen h1 h5).size; omega, by have := (bthen h1 h5).size; omega, by have := (bthen h1 h5).size; omega⟩
  have HK : Hid (∀ wx, Below W.heap.size W wx → wx.cell? ⟨g, 1, none⟩ = some (.slice v.p1 v.l1 v.c1)) := fun wx h => (hv.below h).cells.2.1
  clear hv hL hB hl hb hgl
  refine wp_pcOnly ?_
  go_wp2_with fail
  go_region_held3 (fun w' => w'.cell? ⟨g, 1, none⟩ = some (.slice v.p1 v.l1 v.c1)) (first | exact HK.out _ (by repeat (first | exact Below.refl _ _ | assumption | refine bdr12 ?_ | refine bgr12 ?_ _ | (refine bst15 ?_ ?_ _; rotate_left; focus (first | (dsimp only; omega) | (simp; done) | (simp; omega) | fail)))) | go_keep | assumption) (first
    | (refine step_appZ _ rfl (.tmp 24) (.tmp 25) rfl _ (by rfl) p l c xs (by rfl) (HLx.out _ (by repeat (first | exact Below.refl _ _ | assumption | refine bdr12 ?_ | refine bgr12 ?_ _ | (refine bst15 ?_ ?_ _; rotate_left; focus (first | (dsimp only; omega) | (simp; done) | (simp; omega) | fail))))) HZ.out.1 ?_; intro a5 c5 w5 h5 g5 q5 r5; obtain ⟨b5, e5, m5, m6, o5, i51, i52, i53⟩ := HW.out _ w5 (by repeat (first | exact Below.refl _ _ | assumption | refine bdr12 ?_ | refine bgr12 ?_ _ | (refine bst15 ?_ ?_ _; rotate_left; focus (first | (dsimp only; omega) | (simp; done) | (simp; omega) | fail)))) g5; have z5 := b5.size; have y5 := g5.size; (try simp at y5); (try (first | (refine cut15 ?_ (fun (T5 : TVar w5 (w7.heap.size) TV.none) => ?_); focus (refine TVar.below ?_ g5; (repeat (first | assumption | (refine TVar.at15 (TVar.new _ TV.none) ?_; simp; done) | (with_reducible refine TVar.dr15 ?_) | (with_reducible refine TVar.go15 ?_ _) | fail)); done)) | (refine cut15 ?_ (fun (T5 : TVar w5 (w7.heap.size + 1) TV.none) => ?_); focus (refine TVar.below ?_ g5; (repeat (first | assumption | (refine TVar.at15 (TVar.new _ TV.none) ?_; simp; done) | (with_reducible refine TVar.dr15 ?_) | (with_reducible refine TVar.go15 ?_ _) | fail)); done)) | (refine cut15 ?_ (fun (T5 : TVar w5 (W.heap.size) TV.none) => ?_); focus (refine TVar.below ?_ g5; (repeat (first | assumption | (refine TVar.at15 (TVar.new _ TV.none) ?_; simp; done) | (with_reducible refine TVar.dr15 ?_) | (with_reducible refine TVar.go15 ?_ _) | fail)); done)) | (refine cut15 ?_ (fun (T5 : TVar w5 (W.heap.size + 1) TV.none) => ?_); focus (refine TVar.below ?_ g5; (repeat (first | assumption | (refine TVar.at15 (TVar.new _ TV.none) ?_; simp; done) | (with_reducible refine TVar.dr15 ?_) | (with_reducible refine TVar.go15 ?_ _) | fail)); done)) | (refine cut15 ?_ (fun (T5 : TVar w5 (W.heap.size + 2) TV.none) => ?_); focus (refine TVar.below ?_ g5; (repeat (first | assumption | (refine TVar.at15 (TVar.new _ TV.none) ?_; simp; done) | (with_reducible refine TVar.dr15 ?_) | (with_reducible refine TVar.go15 ?_ _) | fail)); done)) | fail)); (try (obtain ⟨C50, C51, C52, F5⟩ := T5.cells; dsimp only [TV.none] at C50 C51 C52; have F50 := F5 0; have F51 := F5 1; have F52 := F5 2; clear F5)))
    | (refine step_appZ _ rfl (.tmp 27) (.tmp 29) rfl _ (by rfl) v.p1 v.l1 v.c1 bs (by rfl) (HLb.out _ (by repeat (first | exact Below.refl _ _ | assumption | refine bdr12 ?_ | refine bgr12 ?_ _ | (refine bst15 ?_ ?_ _; rotate_left; focus (first | (dsimp only; omega) | (simp; done) | (simp; omega) | fail))))) HZ.out.2 ?_; intro a7 c7 w7 h7 g7 q7 r7; obtain ⟨b7, e7, m7, m8, o7, i71, i72, i73⟩ := HW.out _ w7 (by repeat (first | exact Below.refl _ _ | assumption | refine bdr12 ?_ | refine bgr12 ?_ _ | (refine bst15 ?_ ?_ _; rotate_left; focus (first | (dsimp only; omega) | (simp; done) | (simp; omega) | fail)))) g7; have z7 := b7.size; have y7 := g7.size; (try simp at y7); (try (first | (refine cut15 ?_ (fun (T7 : TVar w7 (w5.heap.size) TV.none) => ?_); focus (refine TVar.below ?_ g7; (repeat (first | assumption | (refine TVar.at15 (TVar.new _ TV.none) ?_; simp; done) | (with_reducible refine TVar.dr15 ?_) | (with_reducible refine TVar.go15 ?_ _) | fail)); done)) | (refine cut15 ?_ (fun (T7 : TVar w7 (w5.heap.size + 1) TV.none) => ?_); focus (refine TVar.below ?_ g7; (repeat (first | assumption | (refine TVar.at15 (TVar.new _ TV.none) ?_; simp; done) | (with_reducible refine TVar.dr15 ?_) | (with_reducible refine TVar.go15 ?_ _) | fail)); done)) | (refine cut15 ?_ (fun (T7 : TVar w7 (W.heap.size) TV.none) => ?_); focus (refine TVar.below ?_ g7; (repeat (first | assumption | (refine TVar.at15 (TVar.new _ TV.none) ?_; simp; done) | (with_reducible refine TVar.dr15 ?_) | (with_reducible refine TVar.go15 ?_ _) | fail)); done)) | (refine cut15 ?_ (fun (T7 : TVar w7 (W.heap.size + 1) TV.none) => ?_); focus (refine TVar.below ?_ g7; (repeat (first | assumption | (refine TVar.at15 (TVar.new _ TV.none) ?_; simp; done) | (with_reducible refine TVar.dr15 ?_) | (with_reducible refine TVar.go15 ?_ _) | fail)); done)) | (refine cut15 ?_ (fun (T7 : TVar w7 (W.heap.size + 2) TV.none) => ?_); focus (refine TVar.below ?_ g7; (repeat (first | assumption | (refine TVar.at15 (TVar.new _ TV.none) ?_; simp; done) | (with_reducible refine TVar.dr15 ?_) | (with_reducible refine TVar.go15 ?_ _) | fail)); done)) | fail)); (try (obtain ⟨C70, C71, C72, F7⟩ := T7.cells; dsimp only [TV.none] at C70 C71 C72; have F70 := F7 0; have F71 := F7 1; have F72 := F7 2; clear F7)))
    | fail)
  all_goals
    first
      | refine HN.out ⟨a5, l, c5, a7, v.l1, c7, none, 0, 0⟩ _ _ _ _ _ _ _ _ _ _ (tvput15 (v := TV.none) ?_) (le15 h5 ?_ (only3_15 _ _ _) ?_) (le15 h7 ?_ (only3_15 _ _ _) ?_) rfl rfl rfl ?_ ?_
      | refine HN.out ⟨a5, l, c5, a7, v.l1, c7, none, 0, 0⟩ _ _ _ _ _ _ _ _ _ _ (cut15 ?_ (fun (_ : True) => TVar.new _ ⟨a5, l, c5, a7, v.l1, c7, none, 0, 0⟩)) ⟨h5.below ?_, ?_⟩ ⟨h7.below ?_, ?_⟩ rfl rfl rfl ?_ ?_
      | fail
    · (repeat (first | exact True.intro | assumption | (refine TVar.at15 (TVar.new _ TV.none) ?_; simp; done) | (with_reducible refine TVar.dr15 ?_) | (with_reducible refine TVar.go15 ?_ _) | fail))
    · (repeat (first | exact Below.refl _ _ | assumption | refine bdr12 ?_ | refine bgr12 ?_ _ | refine bthen ?_ g7 | fail))
    · intro ad e
      have h1 := q5 ad e
      have h2 := r5 ad e
      (try simp at h1)
      refine ⟨?_, ?_⟩ <;> omega
    · (repeat (first | exact Below.refl _ _ | assumption | refine bdr12 ?_ | refine bgr12 ?_ _ | refine bthen ?_ g5 | fail))
    · intro ad e
      have h1 := q7 ad e
      have h2 := r7 ad e
      (try simp at h1)
      refine ⟨?_, ?_⟩ <;> omega
    · omega
    · exact (by repeat (first | exact Below.refl _ _ | assumption | refine bdr12 ?_ | refine bgr12 ?_ _ | (refine bst15 ?_ ?_ _; rotate_left; focus (first | (dsimp only; omega) | (simp; done) | (simp; omega) | fail))))

end Go.Proofs.Ytaiikhbfnfcalaa
