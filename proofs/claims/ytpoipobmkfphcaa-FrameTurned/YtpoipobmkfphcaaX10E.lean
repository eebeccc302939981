/-
  What the readings of a frame's parts tell; the contract of the program's read (frame).
-/
import Derived.Test.YtpoipobmkfphcaaX10D
import Derived.Test.YtpoipobmkfphcaaX9D
namespace Go.Proofs.Ytpoipobmkfphcaa
open Go.RowKit

theorem code_small {b : Nat} (h : b < 128) : IsCode [(b : Int)] b := ⟨rfl, by omega⟩
theorem ResNum.ok {L : List Int} {most n : Nat} {R : List Int} (h : ResNum L most n 0 R) : ∃ c, IsCode c n ∧ L = c ++ R ∧ n ≤ most := by
  obtain ⟨m, k, h1, ⟨_, _, h3, _⟩ | ⟨h2, rfl, _, rfl⟩⟩ := h
  · cases h3
  · rcases h1 with ⟨_, _, h4⟩ | ⟨hk, _, _⟩
    · exact ⟨_, h4, (List.take_append_drop _ _).symm, by omega⟩
    · exact absurd (.inl hk) h2
theorem ResBytR.ok {L : List Int} {most : Int} {ys R : List Int} (h : ResBytR L most ys 0 R) : ∃ c, IsCode c ys.length ∧ L = c ++ (ys ++ R) ∧ (ys.length : Int) ≤ most := by
  obtain ⟨m, k, h1, ⟨_, _, h3, _⟩ | ⟨h2, rfl, _, rfl⟩⟩ := h
  · cases h3
  · have hl : ((L.drop k).take m).length = m := by simp; omega
    rcases h1 with ⟨_, _, h4⟩ | ⟨hk, _, _⟩
    · rw [hl]
      refine ⟨_, h4, ?_, by omega⟩
      rw [← List.drop_drop, List.take_append_drop, List.take_append_drop]
    · exact absurd (.inl hk) h2
/-- The parts of a frame are read as the frame's. -/
theorem head_read {d : Bool} {s a : Int} {body L : List Int} (h : IsHead d s a body L) (hr : rightFr d s a body.length = true) {n0 n n2 : Nat} {e0 e e2 e3 : Int} {R0 R1 R2 R3 ys : List Int} (h0 : ResNum L 1 n0 e0 R0) (h1 : ResNum R0 1073741824 n e R1) (h2 : ResNum R1 1073741824 n2 e2 R2) (h3 : ResBytR R2 1048576 ys e3 R3) :
    ((n0 == 1) = d ∧ (n : Int) = s ∧ (n2 : Int) = a ∧ ys = body) ∧ (e0 = 0 ∧ e = 0 ∧ e2 = 0 ∧ e3 = 0) ∧ R3 = [] := by
  obtain ⟨x1, x2, x3, x4, x5, _⟩ := (rightFr_iff _ _ _ _).1 hr
  obtain ⟨cs, ca, cb, k1, k2, k3, rfl⟩ := h
  have kd : IsCode [(if d then 1 else 0 : Int)] (if d then 1 else 0) := by cases d <;> exact code_small (by decide)
  obtain ⟨rfl, rfl, rfl⟩ := h0.unique (read_num (c := [(if d then 1 else 0 : Int)]) (R := cs ++ (ca ++ (cb ++ body))) kd (by cases d <;> simp) (by cases d <;> simp))
  obtain ⟨rfl, rfl, rfl⟩ := h1.unique (read_num (R := ca ++ (cb ++ body)) k1 (by omega) (by omega))
  obtain ⟨rfl, rfl, rfl⟩ := h2.unique (read_num (R := cb ++ body) k2 (by omega) (by omega))
  obtain ⟨rfl, rfl, rfl⟩ := h3.unique (read_byt k3 (by omega) (by omega))
  exact ⟨⟨by cases d <;> rfl, by omega, by omega, rfl⟩, ⟨rfl, rfl, rfl, rfl⟩, rfl⟩
/-- What is read without a fault is a frame's parts. -/
theorem read_head {L : List Int} {n0 n n2 : Nat} {R0 R1 R2 ys : List Int} (h0 : ResNum L 1 n0 0 R0) (h1 : ResNum R0 1073741824 n 0 R1) (h2 : ResNum R1 1073741824 n2 0 R2) (h3 : ResBytR R2 1048576 ys 0 []) : IsHead (n0 == 1) n n2 ys L := by
  obtain ⟨c0, k0, rfl, m0⟩ := h0.ok
  obtain ⟨c1, k1, rfl, m1⟩ := h1.ok
  obtain ⟨c2, k2, rfl, m2⟩ := h2.ok
  obtain ⟨c3, k3, rfl, m3⟩ := h3.ok
  refine ⟨c1, c2, c3, by simpa using k1, by simpa using k2, k3, ?_⟩
  rw [k0.bytes (code_small (by omega)), List.append_nil]
  have : n0 = 0 ∨ n0 = 1 := by omega
  rcases this with rfl | rfl <;> rfl

theorem cell_putF {w : World} {G k j : Nat} (h : G ≠ k) (x y z u : Value) : ((((w.setCell ⟨G, 0, none⟩ x).setCell ⟨G, 1, none⟩ y).setCell ⟨G, 2, none⟩ z).setCell ⟨G, 3, none⟩ u).cell? ⟨k, j, none⟩ = w.cell? ⟨k, j, none⟩ := by
  rw [World.cell?_setCell_other, World.cell?_setCell_other, World.cell?_setCell_other, World.cell?_setCell_other] <;> (intro e; cases e; exact h rfl)
/-- What read makes. -/
def ReadT (L : List Int) (w : World) (g : Nat) (e : Ending) (w' : World) : Prop :=
  ∃ d s a p l c ys ok, e = .returned (.tuple #[.agg #[.bool d, .int .i64 s, .int .i64 a, .slice p l c], .bool ok]) ∧ Byts w' p l c ys ∧ ((p = none → c = 0) ∧ ∀ ad, p = some ad → 0 < l → w.heap.size ≤ ad.block ∧ IsB w' ad.block) ∧ (ok = true → rightFr d s a ys.length = true ∧ IsHead d s a ys L) ∧ (ok = false → ∀ d s a body, rightFr d s a body.length = true → ¬ IsHead d s a body L) ∧ w.grownBy w' (some g)
theorem grown_putF {w w' : World} {g G : Nat} (h : w.grownBy w' (some g)) (hG : w.heap.size ≤ G) (x y z u : Value) : w.grownBy ((((w'.setCell ⟨G, 0, none⟩ x).setCell ⟨G, 1, none⟩ y).setCell ⟨G, 2, none⟩ z).setCell ⟨G, 3, none⟩ u) (some g) := by
  have hb := putF_below (Below.refl w.heap.size w') hG x y z u
  refine ⟨hb.os.trans h.os, hb.tape.trans h.tape, hb.output.trans h.output, Nat.le_trans h.size hb.size, fun k hk hne => ?_⟩
  rw [hb.block k hk, h.block k hk hne]
theorem CellF.grown {w w' : World} {G g : Nat} {d : Bool} {s a : Int} {p : Option Addr} {l c : Nat} (h : CellF w G d s a p l c) (hg : w.grownBy w' (some g)) (hne : G ≠ g) : CellF w' G d s a p l c := by
  have hb := hg.block G h.lt (fun e => hne (by simpa using e))
  exact ⟨(World.cell?_of_block (a := ⟨G, 0, none⟩) hb).trans h.c0, (World.cell?_of_block (a := ⟨G, 1, none⟩) hb).trans h.c1, (World.cell?_of_block (a := ⟨G, 2, none⟩) hb).trans h.c2, (World.cell?_of_block (a := ⟨G, 3, none⟩) hb).trans h.c3, (World.frozen?_of_block (a := ⟨G, 0, none⟩) hb).trans h.f0, (World.frozen?_of_block (a := ⟨G, 1, none⟩) hb).trans h.f1, (World.frozen?_of_block (a := ⟨G, 2, none⟩) hb).trans h.f2, (World.frozen?_of_block (a := ⟨G, 3, none⟩) hb).trans h.f3⟩
theorem grown_on {w w1 w2 : World} {g : Nat} (h : w.grownBy w1 (some g)) (h2 : w1.grownBy w2 (some g)) : w.grownBy w2 (some g) := ⟨h2.os.trans h.os, h2.tape.trans h.tape, h2.output.trans h.output, Nat.le_trans h.size h2.size, fun k hk hne => (h2.block k (Nat.lt_of_lt_of_le hk h.size) hne).trans (h.block k hk hne)⟩
theorem grown_bel {w w1 w2 : World} {g : Nat} (h : w.grownBy w1 (some g)) (h2 : Below w1.heap.size w1 w2) : w.grownBy w2 (some g) := ⟨h2.os.trans h.os, h2.tape.trans h.tape, h2.output.trans h.output, Nat.le_trans h.size h2.size, fun k hk hne => (h2.block k (Nat.lt_of_lt_of_le hk h.size)).trans (h.block k hk hne)⟩

set_option maxRecDepth 20000 in
set_option maxHeartbeats 6400000 in
theorem f10read_any (g : Nat) (L : List Int) (w : World) (h : CRdAt w g L) :
    Calls Try.prog 27 #[.pointer (some ⟨g, 0, none⟩)] w fun e w' => ReadT L w g e w' := by
  have hV := balloc w (.cells #[.bool false, .int .i64 0, .int .i64 0, .slice none 0 0] 27)
  have hR := CellF.new w false 0 0 none 0 0
  have hgl := h.lt
  replace h := h.below hV
  obtain ⟨V, hVe⟩ : ∃ V, V = w.alloc (.cells #[.bool false, .int .i64 0, .int .i64 0, .slice none 0 0] 27) := ⟨_, rfl⟩
  have HVe : Hid (V = w.alloc (.cells #[.bool false, .int .i64 0, .int .i64 0, .slice none 0 0] 27)) := hVe
  rw [← hVe] at hV hR h
  clear hVe
  go_enter Try.func27, Try.ntmps27
  go_wp2_with fail
  rw [← HVe.out]
  obtain ⟨G, hG⟩ : ∃ G, G = w.heap.size := ⟨_, rfl⟩
  rw [← hG] at hR
  rw [← hG]
  have HG : Hid (w.heap.size ≤ G) := by show _ ≤ _; rw [hG]; exact Nat.le_refl _
  have hne : G ≠ g := by omega
  clear HVe hG
  refine (c9rnum_any g L 1 _ h).mono ?_
  rintro e w0 ⟨n0, e0, R0, rfl, hr0, hA0, hgr0⟩
  have hg0 := grown_on (grown_of_below hV (some g)) hgr0
  have hR0 := hR.grown hgr0 hne
  have HR0 : Hid (ResNum L 1 n0 e0 R0) := hr0
  have hn0 := hr0.le
  clear hr0 hgr0 hR h hV
  go_wp2_with fail
  refine (c9rnum_any g R0 1073741824 _ hA0).mono ?_
  rintro e w1 ⟨n1, e1, R1, rfl, hr1, hA1, hgr1⟩
  have hg1 := grown_on hg0 hgr1
  have hR1 := hR0.grown hgr1 hne
  have HR1 : Hid (ResNum R0 1073741824 n1 e1 R1) := hr1
  have hn1 := hr1.le
  clear hr1 hgr1 hR0 hA0 hg0
  go_wp2_with fail
  refine (c9rnum_any g R1 1073741824 _ hA1).mono ?_
  rintro e w2 ⟨n2, e2, R2, rfl, hr2, hA2, hgr2⟩
  have hg2 := grown_on hg1 hgr2
  have hR2 := hR1.grown hgr2 hne
  have HR2 : Hid (ResNum R1 1073741824 n2 e2 R2) := hr2
  have hn2 := hr2.le
  clear hr2 hgr2 hR1 hA1 hg1
  go_wp2_with fail
  refine (c9rbyt_any g R2 1048576 _ hA2 (by decide)).mono ?_
  rintro e w3 ⟨ya, yl, yc, ys, e3, R3, rfl, ⟨hy, yn, yf⟩, hr3, hA3, hgr3⟩
  have hg3 := grown_on hg2 hgr3
  have hR3 := hR2.grown hgr3 hne
  have HR3 : Hid (ResBytR R2 1048576 ys e3 R3) := hr3
  have HYF : Hid (∀ ad, ya = some ad → 0 < yl → w.heap.size ≤ ad.block) := fun ad e h0 => Nat.le_trans hg2.size (yf ad e h0).1
  have HI3 : Hid (IsBs w3 ya yl) := fun ad e h0 => (yf ad e h0).2
  have HYL : Hid (ys.length = yl) := hy.hlen
  clear hr3 hgr3 hR2 hA2 hg2 yf
  have ALL : Hid (∀ d s a body, rightFr d s a body.length = true → IsHead d s a body L → ((n0 == 1) = d ∧ (n1 : Int) = s ∧ (n2 : Int) = a ∧ ys = body) ∧ (e0 = 0 ∧ e1 = 0 ∧ e2 = 0 ∧ e3 = 0) ∧ R3 = []) := fun d s a body hr he => head_read he hr HR0.out HR1.out HR2.out HR3.out
  have BAD : ∀ wx : World, w.grownBy wx (some g) → (∀ d s a body, rightFr d s a body.length = true → ¬ IsHead d s a body L) → Hid (ReadT L w g (.returned (.tuple #[.agg #[.bool false, .int .i64 0, .int .i64 0, .slice none 0 0], .bool false])) ((((wx.setCell ⟨G, 0, none⟩ (.bool false)).setCell ⟨G, 1, none⟩ (.int .i64 0)).setCell ⟨G, 2, none⟩ (.int .i64 0)).setCell ⟨G, 3, none⟩ (.slice none 0 0))) := fun wx hb hn => ⟨false, 0, 0, none, 0, 0, [], false, rfl, Byts.nil _, ⟨fun _ => rfl, fun _ e => (by cases e)⟩, fun e => (by cases e), fun _ => hn, grown_putF hb HG.out _ _ _ _⟩
  obtain ⟨r0, r1, r2, r3, f0, f1, f2, f3⟩ := hR3
  have hRc : CellF w3 G false 0 0 none 0 0 := ⟨r0, r1, r2, r3, f0, f1, f2, f3⟩
  by_cases z0 : e0 = 0
  case neg =>
    have HB := BAD w3 hg3 (fun d s a body hr he => z0 (ALL.out d s a body hr he).2.1.1)
    have z0d : (e0 != 0) = true := by simp [z0]
    have z0e : (e0 == 0) = false := by simp [z0]
    clear ALL BAD hg3 hA3 hy z0 hRc
    go_wp2_with fail
    exact bodyPost_ret (v := .tuple #[.agg #[.bool false, .int .i64 0, .int .i64 0, .slice none 0 0], .bool false]) (by simp [results, Try.results27, go_sem, r0, r1, r2, r3]) rfl HB.out
  subst z0
  by_cases z1 : e1 = 0
  case neg =>
    have HB := BAD w3 hg3 (fun d s a body hr he => z1 (ALL.out d s a body hr he).2.1.2.1)
    have z1d : (e1 != 0) = true := by simp [z1]
    have z1e : (e1 == 0) = false := by simp [z1]
    clear ALL BAD hg3 hA3 hy z1 hRc
    go_wp2_with fail
    exact bodyPost_ret (v := .tuple #[.agg #[.bool false, .int .i64 0, .int .i64 0, .slice none 0 0], .bool false]) (by simp [results, Try.results27, go_sem, r0, r1, r2, r3]) rfl HB.out
  subst z1
  by_cases z2 : e2 = 0
  case neg =>
    have HB := BAD w3 hg3 (fun d s a body hr he => z2 (ALL.out d s a body hr he).2.1.2.2.1)
    have z2d : (e2 != 0) = true := by simp [z2]
    have z2e : (e2 == 0) = false := by simp [z2]
    clear ALL BAD hg3 hA3 hy z2 hRc
    go_wp2_with fail
    exact bodyPost_ret (v := .tuple #[.agg #[.bool false, .int .i64 0, .int .i64 0, .slice none 0 0], .bool false]) (by simp [results, Try.results27, go_sem, r0, r1, r2, r3]) rfl HB.out
  subst z2
  by_cases z3 : e3 = 0
  case neg =>
    have HB := BAD w3 hg3 (fun d s a body hr he => z3 (ALL.out d s a body hr he).2.1.2.2.2)
    have z3d : (e3 != 0) = true := by simp [z3]
    have z3e : (e3 == 0) = false := by simp [z3]
    clear ALL BAD hg3 hA3 hy z3 hRc
    go_wp2_with fail
    exact bodyPost_ret (v := .tuple #[.agg #[.bool false, .int .i64 0, .int .i64 0, .slice none 0 0], .bool false]) (by simp [results, Try.results27, go_sem, r0, r1, r2, r3]) rfl HB.out
  subst z3
  go_wp2_with fail
  refine (c9left_any g R3 _ hA3).mono ?_
  rintro e w5 ⟨rfl, rfl⟩
  obtain ⟨t, ht⟩ : ∃ t, t = R3.length := ⟨_, rfl⟩
  rw [← ht]
  by_cases zL : R3 = []
  case neg =>
    have HB := BAD w3 hg3 (fun d s a body hr he => zL (ALL.out d s a body hr he).2.2)
    have t0 : (0 : Int) < (t : Int) := by rw [ht]; have := List.length_pos_iff.2 zL; omega
    clear ALL BAD hg3 hA3 hy hRc zL ht
    go_wp2_with fail
    exact bodyPost_ret (v := .tuple #[.agg #[.bool false, .int .i64 0, .int .i64 0, .slice none 0 0], .bool false]) (by simp [results, Try.results27, go_sem, r0, r1, r2, r3]) rfl HB.out
  obtain rfl : t = 0 := by rw [ht, zL]; rfl
  subst zL
  have HH : Hid (IsHead (n0 == 1) n1 n2 ys L) := read_head HR0.out HR1.out HR2.out HR3.out
  clear ht HR0 HR1 HR2 HR3 BAD
  obtain ⟨q, hq⟩ : ∃ q, q = (n0 == 1) := ⟨_, rfl⟩
  have hqi : ((n0 : Int) == 1) = q := by
    rw [hq]
    by_cases e : n0 = 1
    · subst e; rfl
    · have : ((n0 : Int) == 1) = false := by simp; omega
      rw [this]
      simp [e]
  rw [← hq] at HH ALL
  clear hq
  have hwS : IntKind.i64.wrap (n1 : Int) = n1 := by simp [IntKind.wrap, IntKind.signed, IntKind.bits]; omega
  have hwA : IntKind.i64.wrap (n2 : Int) = n2 := by simp [IntKind.wrap, IntKind.signed, IntKind.bits]; omega
  have hFn := balloc w3 (.cells #[.bool q, .int .i64 n1, .int .i64 n2, .slice ya yl yc] 27)
  have HF := CellF.new w3 q n1 n2 ya yl yc
  have hRW := hRc.below hFn
  have hyW := hy.below hFn
  have HIW : Hid (IsBs (w3.alloc (.cells #[.bool q, .int .i64 n1, .int .i64 n2, .slice ya yl yc] 27)) ya yl) := HI3.out.below hFn
  have hgW := grown_bel hg3 hFn
  have hGk : G < w3.heap.size := hRc.lt
  obtain ⟨W, hWe⟩ : ∃ W, W = w3.alloc (.cells #[.bool q, .int .i64 n1, .int .i64 n2, .slice ya yl yc] 27) := ⟨_, rfl⟩
  have HWe : Hid (W = w3.alloc (.cells #[.bool q, .int .i64 n1, .int .i64 n2, .slice ya yl yc] 27)) := hWe
  obtain ⟨k, hk⟩ : ∃ k, k = w3.heap.size := ⟨_, rfl⟩
  have Hk : Hid (k = w3.heap.size) := hk
  rw [← hWe] at HF hRW hyW hgW HIW
  rw [← hk] at HF hGk
  have hkW : k < W.heap.size := HF.lt
  clear hFn hRc hy HI3 hg3 r0 r1 r2 r3 f0 f1 f2 f3 hWe hk hA3
  have hyl := hyW.hcap
  have hym := hyW.hmax
  unfold maxLen at hym
  obtain ⟨B, hB⟩ : ∃ B, B = rightFr q n1 n2 yl := ⟨_, rfl⟩
  have HRB : Hid (Below W.heap.size W W) := Below.refl _ _
  have HMa : Hid (∀ wx : World, Below W.heap.size W wx → Calls Try.prog 18 #[.agg #[.bool q, .int .i64 n1, .int .i64 n2, .slice ya yl yc]] wx fun e w' => e = .returned (.bool B) ∧ (w'.cell? ⟨k, 0, none⟩ = some (.bool q) ∧ w'.cell? ⟨k, 1, none⟩ = some (.int .i64 n1) ∧ w'.cell? ⟨k, 2, none⟩ = some (.int .i64 n2) ∧ w'.cell? ⟨k, 3, none⟩ = some (.slice ya yl yc)) ∧ Hid (Below W.heap.size W w') ∧ CellF w' G false 0 0 none 0 0) := by
    intro wx hbx
    refine (f10may_any q n1 n2 ya yl yc wx (by omega)).mono ?_
    rintro e w' ⟨rfl, hb⟩
    have hb' := bthen hbx hb
    have hc := HF.below hb'
    exact ⟨by rw [hB], ⟨hc.c0, hc.c1, hc.c2, hc.c3⟩, hb', hRW.below hb'⟩
  obtain ⟨c0, c1, c2, c3, -, -, -, -⟩ := HF
  have hB2 : Hid (B = rightFr q n1 n2 ys.length) := by show _ = _; rw [HYL.out]; exact hB
  clear hB
  go_wp2_with fail
  rw [← HWe.out, ← Hk.out]
  clear HWe Hk
  have ne0 := World.new_ne W ⟨k, 0, none⟩ c0
  clear hne hgl hn0 hn1 hn2
  go_region_held3 (fun w' => w'.cell? ⟨k, 0, none⟩ = some (.bool q) ∧ w'.cell? ⟨k, 1, none⟩ = some (.int .i64 n1) ∧ w'.cell? ⟨k, 2, none⟩ = some (.int .i64 n2) ∧ w'.cell? ⟨k, 3, none⟩ = some (.slice ya yl yc)) (first | go_keep | exact ⟨m0, m1, m2, m3⟩ | exact ⟨(cell_putF (by omega) _ _ _ _).trans m0, (cell_putF (by omega) _ _ _ _).trans m1, (cell_putF (by omega) _ _ _ _).trans m2, (cell_putF (by omega) _ _ _ _).trans m3⟩)
    (first
    | (go_at_call 18; with_reducible refine Calls.mono (HMa.out _ ?_) ?_; (focus (repeat (first | exact HRB.out | refine bdrX' ?_ | refine bgrX ?_ _))); rintro e w6 ⟨rfl, ⟨m0, m1, m2, m3⟩, hb6, ⟨r0, r1, r2, r3, f0, f1, f2, f3⟩⟩))
  all_goals
    clear HMa HRB
    have hR6 : CellF w6 G false 0 0 none 0 0 := ⟨r0, r1, r2, r3, f0, f1, f2, f3⟩
    have hy6 := Byts.putF hR6 (hyW.below hb6.out) (.bool q) (.int .i64 n1) (.int .i64 n2) (.slice ya yl yc)
    have HI6 : Hid (IsBs ((((w6.setCell ⟨G, 0, none⟩ (.bool q)).setCell ⟨G, 1, none⟩ (.int .i64 n1)).setCell ⟨G, 2, none⟩ (.int .i64 n2)).setCell ⟨G, 3, none⟩ (.slice ya yl yc)) ya yl) := IsBs.putF (HIW.out.below hb6.out) G _ _ _ _
    have hgF := grown_putF (grown_bel hgW hb6.out) HG.out (.bool q) (.int .i64 n1) (.int .i64 n2) (.slice ya yl yc)
    clear hyW hgW HIW hb6 hRW m0 m1 m2 m3 c0 c1 c2 c3 hR6
    go_wp2_with fail
    refine bodyPost_ret (v := .tuple #[.agg #[.bool q, .int .i64 n1, .int .i64 n2, .slice ya yl yc], .bool B]) (by simp [results, Try.results27, go_sem, r0, r1, r2, r3]) rfl ?_
    refine ⟨q, n1, n2, ya, yl, yc, ys, B, rfl, hy6, ⟨yn, fun ad e h0 => ⟨HYF.out ad e h0, HI6.out ad e h0⟩⟩, fun e => ?_, fun e d s a body hr hd => ?_, hgF⟩
    · rw [hB2.out] at e
      exact ⟨e, HH.out⟩
    · obtain ⟨⟨k1, k2, k3, k4⟩, -, -⟩ := ALL.out d s a body hr hd
      subst k1 k2 k3 k4
      rw [← hB2.out, e] at hr
      cases hr
end Go.Proofs.Ytpoipobmkfphcaa
