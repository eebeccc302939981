/-
  What is read of a code is what it was made of.
  What a call may turn: footprints of blocks; bytes, and rows of them, which lie in blocks of bytes.
  Contracts of slices.Grow and slices.Concat of bytes.
-/
import Derived.Test.YtnbdbahfekneoabC9A
import Derived.Maps.AppendAt
import Derived.Test.YtnbdbahfekneoabNatA
import Derived.Test.YtnbdbahfekneoabModA
import Derived.Lib.AppendZeros
namespace Go.Proofs.Ytnbdbahfekneoab
open Go.RowKit

theorem back_num {c R : List Int} {n : Nat} (h : IsCode c n) (hn : n < 18446744073709551616) : ResNum (c ++ R) n n 0 R :=
  ⟨n, c.length, NextT.of_code h hn, .inr ⟨fun e => by
    rcases e with e | e
    · exact h.nonempty (List.eq_nil_of_length_eq_zero e)
    · omega, rfl, rfl, by simp⟩⟩
theorem zag_zig (x : Int) : zag (zig x) = x := by
  unfold zag zig
  split <;> split <;> omega
theorem zig_half (x : Int) : (((zig x + 1) / 2 : Nat) : Int) = if x < 0 then -x else x := by
  unfold zig
  split <;> split <;> omega
theorem back_int {c R : List Int} {x most : Int} (h : IsCode c (zig x)) (hx : -9223372036854775808 ≤ x ∧ x < 9223372036854775808) (hm : most = if x < 0 then -x else x) : ResIntR (c ++ R) most x 0 R :=
  ⟨zig x, c.length, NextT.of_code h (zig_lt hx), .inr ⟨fun e => by
    rcases e with e | e | e
    · exact h.nonempty (List.eq_nil_of_length_eq_zero e)
    · rw [hm] at e; split at e <;> omega
    · rw [zig_half, ← hm] at e; omega, (zag_zig x).symm, rfl, by simp⟩⟩
theorem back_byt {c bs : List Int} (h : IsCode c bs.length) (hn : bs.length < 18446744073709551616) : ResBytR (c ++ bs) (bs.length : Int) bs 0 [] :=
  ⟨bs.length, c.length, NextT.of_code h hn, .inr ⟨fun e => by
    rcases e with e | e | e | e
    · exact h.nonempty (List.eq_nil_of_length_eq_zero e)
    · omega
    · omega
    · simp at e, by simp, rfl, by simp⟩⟩
theorem nil9 {a : Option Addr} {n c : Nat} (h : Value.slice a n c ≠ .slice none 0 0 → a ≠ none) : a = none → c = 0 := fun e => by
  by_cases q : Value.slice a n c = .slice none 0 0
  · injection q
  · exact absurd e (h q)
theorem own9 {w w' : World} {base : Nat} {v : Value} {zs : List Int} (h : BOwn w base v zs) (hb : Below w.heap.size w w') : BOwn w' base v zs := by
  refine World.ownsRow.kept h (grown_of_below hb none) ?_
  cases hv : v.ownBlock with
  | none => exact .inl rfl
  | some k => right; intro e; cases e
end Go.Proofs.Ytnbdbahfekneoab

namespace Go.Proofs.Ytnbdbahfekneoab
open Go.RowKit

/-- Blocks of T alone have turned, and new ones came. -/
structure Only (T : Nat → Prop) (w w' : World) : Prop where
  os : w'.os = w.os
  tape : w'.tape = w.tape
  output : w'.output = w.output
  size : w.heap.size ≤ w'.heap.size
  block : ∀ b, b < w.heap.size → ¬ T b → w'.heap[b]? = w.heap[b]?
theorem Only.refl (T : Nat → Prop) (w : World) : Only T w w := ⟨rfl, rfl, rfl, Nat.le_refl _, fun _ _ _ => rfl⟩
theorem Only.of_below {T : Nat → Prop} {w w' : World} (h : Below w.heap.size w w') : Only T w w' := ⟨h.os, h.tape, h.output, h.size, fun b hb _ => h.block b hb⟩
theorem Only.of_grown {T : Nat → Prop} {w w' : World} {row : Option Nat} (h : w.grownBy w' row) (hT : ∀ b, row = some b → T b) : Only T w w' := ⟨h.os, h.tape, h.output, h.size, fun b hb hn => h.block b hb (fun e => hn (hT b e.symm))⟩
theorem Only.trans {T T' : Nat → Prop} {a b c : World} (h : Only T a b) (k : Only T' b c) (hT : ∀ q, T' q → T q ∨ a.heap.size ≤ q) : Only T a c :=
  ⟨k.os.trans h.os, k.tape.trans h.tape, k.output.trans h.output, Nat.le_trans h.size k.size, fun q hq hn => (k.block q (Nat.lt_of_lt_of_le hq h.size) (fun e => by
    rcases hT q e with e | e
    · exact hn e
    · omega)).trans (h.block q hq hn)⟩
theorem Only.wide {T T' : Nat → Prop} {w w' : World} (h : Only T w w') (hT : ∀ q, T q → T' q) : Only T' w w' := ⟨h.os, h.tape, h.output, h.size, fun q hq hn => h.block q hq (fun e => hn (hT q e))⟩
theorem Only.below {T : Nat → Prop} {B : Nat} {w w' : World} (h : Only T w w') (hT : ∀ b, T b → B ≤ b) (hB : B ≤ w.heap.size) : Below B w w' :=
  ⟨h.os, h.tape, h.output, h.size, fun k hk => h.block k (by omega) (fun e => by have := hT k e; omega)⟩
theorem Only.drew {T : Nat → Prop} {w w' : World} (h : Only T w w') : Only T w w'.drew := ⟨h.os, h.tape, h.output, h.size, h.block⟩
theorem Only.cell {T : Nat → Prop} {w w' : World} (h : Only T w w') {p : Addr} {v : Value} (hp : w.cell? p = some v) (hn : ¬ T p.block) : w'.cell? p = some v :=
  (World.cell?_of_block (h.block p.block (World.block_lt_of_cell? w p hp) hn)).trans hp

/-- Bytes in a block of bytes. -/
structure BytG (w : World) (a : Option Addr) (l c : Nat) (bs : List Int) : Prop where
  byts : Byts w a l c bs
  nil : a = none → c = 0
  isb : IsBs w a l
theorem BytG.only {C : Nat → Prop} {w w' : World} {a : Option Addr} {l c : Nat} {bs : List Int} (h : BytG w a l c bs) (k : Only C w w') (hC : ∀ b, C b → ¬ IsB w b) : BytG w' a l c bs := by
  refine ⟨⟨h.byts.hlen, h.byts.hcap, h.byts.hmax, fun h0 => ?_, h.byts.word⟩, h.nil, fun ad e h0 => ?_⟩
  · obtain ⟨b, off, e, hc⟩ := h.byts.cells h0
    exact ⟨b, off, e, fun i hi => k.cell (hc i hi) (fun q => hC b q (h.isb _ e h0))⟩
  · have := h.isb ad e h0
    exact this.kept (k.block _ this.lt (fun q => hC _ q this))
theorem BytG.below {w w' : World} {a : Option Addr} {l c : Nat} {bs : List Int} (h : BytG w a l c bs) (hb : Below w.heap.size w w') : BytG w' a l c bs := h.only (Only.of_below (T := fun _ => False) hb) (fun _ e => e.elim)
/-- What is no block of bytes stays so. -/
theorem IsB.back {C : Nat → Prop} {w w' : World} {b : Nat} (k : Only C w w') (hb : b < w.heap.size) (hn : ¬ C b) (h : ¬ IsB w b) : ¬ IsB w' b := fun ⟨cur, e⟩ => h ⟨cur, (k.block b hb hn).symm.trans e⟩
theorem row_notB {w : World} {base : Nat} {t : TypeId} {size : Nat} {v : Value} {n : Nat} {xs : List Value} (h : w.ownsRow base t size v n xs) (ht : t ≠ 5) : ∀ b, v.ownBlock = some b → ¬ IsB w b := fun b e => by
  rcases h.2 with ⟨rfl, _⟩ | ⟨g, cap, cur, rfl, _, hg, _⟩
  · simp [Value.ownBlock] at e
  · simp [Value.ownBlock] at e
    subst e
    exact IsB.not hg ht
/-- A row whose block is its own stays, as long as that is not turned. -/
theorem row_only {C : Nat → Prop} {w w' : World} {base : Nat} {t : TypeId} {size : Nat} {v : Value} {n : Nat} {xs : List Value} (h : w.ownsRow base t size v n xs) (k : Only C w w') (hv : ∀ b, v.ownBlock = some b → ¬ C b) : w'.ownsRow base t size v n xs := by
  refine ⟨h.1, ?_⟩
  rcases h.2 with hn | ⟨g, cap, cur, rfl, hb, hg, rest⟩
  · exact .inl hn
  · refine .inr ⟨g, cap, cur, rfl, hb, ?_, rest⟩
    rw [k.block g (Array.getElem?_eq_some_iff.1 hg).1 (hv g rfl)]
    exact hg
/-- A row of rows of bytes, its block its own. -/
def RowB (w : World) (v : Value) (Ls : List (List Int)) : Prop := ∃ vs : List Value, w.ownsRow 0 32 1 v Ls.length vs ∧ ∀ i, i < Ls.length → ∃ p n c, vs[i]? = some (.slice p n c) ∧ BytG w p n c (Ls.getD i [])
theorem RowB.nil (w : World) : RowB w (.slice none 0 0) [] := ⟨[], World.ownsRow_nil _ _ _ _, fun i hi => absurd hi (by simp)⟩
theorem RowB.slice {w : World} {v : Value} {Ls : List (List Int)} (h : RowB w v Ls) : ∃ a c, v = .slice a Ls.length c ∧ (a = none → c = 0) ∧ Ls.length ≤ c ∧ c ≤ maxLen := by
  obtain ⟨vs, h1, _⟩ := h
  rcases h1.2 with ⟨rfl, hn⟩ | ⟨g, cap, cur, rfl, _, _, hnc, hcm, _⟩
  · exact ⟨none, 0, by rw [hn], fun _ => rfl, by omega, Nat.zero_le _⟩
  · exact ⟨_, cap, rfl, fun e => (by cases e), hnc, hcm⟩
theorem RowB.only {C : Nat → Prop} {w w' : World} {v : Value} {Ls : List (List Int)} (h : RowB w v Ls) (k : Only C w w') (hv : ∀ b, v.ownBlock = some b → ¬ C b) (hC : ∀ b, C b → ¬ IsB w b) : RowB w' v Ls := by
  obtain ⟨vs, h1, h2⟩ := h
  refine ⟨vs, row_only h1 k hv, fun i hi => ?_⟩
  obtain ⟨p, n, c, e, hb⟩ := h2 i hi
  exact ⟨p, n, c, e, hb.only k hC⟩
theorem RowB.lt {w : World} {v : Value} {Ls : List (List Int)} (h : RowB w v Ls) : ∀ b, v.ownBlock = some b → b < w.heap.size := fun b e => by
  obtain ⟨vs, h1, _⟩ := h
  exact (World.ownsRow.lt h1 b e).2
theorem RowB.notB {w : World} {v : Value} {Ls : List (List Int)} (h : RowB w v Ls) : ∀ b, v.ownBlock = some b → ¬ IsB w b := by
  obtain ⟨vs, h1, _⟩ := h
  exact row_notB h1 (by decide)
/-- The bytes of one row. -/
theorem RowB.at {w : World} {v : Value} {Ls : List (List Int)} (h : RowB w v Ls) {i : Nat} (hi : i < Ls.length) : ∃ g cap p n c, v = .slice (some ⟨g, 0, none⟩) Ls.length cap ∧ w.cell? ⟨g, i, none⟩ = some (.slice p n c) ∧ BytG w p n c (Ls.getD i []) := by
  obtain ⟨vs, h1, h2⟩ := h
  obtain ⟨p, n, c, e, hb⟩ := h2 i hi
  rcases h1.2 with ⟨rfl, hn⟩ | ⟨g, cap, cur, rfl, _, hg, _, _, _, htk⟩
  · omega
  · refine ⟨g, cap, p, n, c, rfl, ?_, hb⟩
    rw [cell_of_row w g i cur _ _ hg]
    rw [← htk, List.getElem?_take] at e
    split at e
    · simpa using e
    · cases e
/-- One row more. -/
theorem RowB.snoc {w : World} {v : Value} {Ls : List (List Int)} {vs : List Value} {p : Option Addr} {n c : Nat} {bs : List Int} (h1 : w.ownsRow 0 32 1 v (Ls.length + 1) (vs ++ [.slice p n c])) (hl : vs.length = Ls.length) (h2 : ∀ i, i < Ls.length → ∃ p n c, vs[i]? = some (.slice p n c) ∧ BytG w p n c (Ls.getD i [])) (h3 : BytG w p n c bs) : RowB w v (Ls ++ [bs]) := by
  refine ⟨vs ++ [.slice p n c], by simpa using h1, fun i hi => ?_⟩
  by_cases q : i < Ls.length
  · obtain ⟨p', n', c', e, hb⟩ := h2 i q
    refine ⟨p', n', c', by rw [List.getElem?_append_left (by omega)]; exact e, ?_⟩
    rw [show (Ls ++ [bs]).getD i [] = Ls.getD i [] by unfold List.getD; rw [List.getElem?_append_left q]]
    exact hb
  · obtain rfl : i = Ls.length := by simp at hi; omega
    refine ⟨p, n, c, by rw [List.getElem?_append_right (by omega), hl]; simp, ?_⟩
    rw [show (Ls ++ [bs]).getD Ls.length [] = bs by simp [List.getD]]
    exact h3
end Go.Proofs.Ytnbdbahfekneoab

namespace Go.Proofs.Ytnbdbahfekneoab
open Go.RowKit

set_option maxRecDepth 20000 in
set_option maxHeartbeats 800000 in
theorem grow10_any (n : Nat) (w : World) (h0 : 0 < n) (hn : n ≤ 140737488355328) :
    Calls Try.prog 38 #[.slice none 0 0, .int .i64 n] w fun e w' => ∃ v, e = .returned v ∧ BOwn w' w.heap.size v [] ∧ Below w.heap.size w w' := by
  obtain ⟨i0, hi, hz0, hz1, hz2⟩ := info_parts Try.infoB
  have hrun := fun ty => Lib.run_append_nil_zeros (P := Try.prog) w 32 3 ty 5 i0 (.int .u8 0) .i64 .i64 Try.underlying32 Try.underlying3 hi hz0 n h0 (by omega) (by omega) (by rw [hz2]; omega)
  have hG := grownCap_ge w n 0 5
  have hM := grownCap_le_maxLen w n 0 5 (by unfold maxLen; omega)
  obtain ⟨G, hGe⟩ : ∃ G, G = grownCap w n 0 5 := ⟨_, rfl⟩
  rw [← hGe] at hG hM
  have hrun2 : ∀ ty, ∃ cur : Array Value, cur.size = G ∧ (Builtin.append_ #[32, 3] ty #[.slice none 0 0, .int .i64 n]).run Try.prog w = .ok (.slice (some ⟨w.heap.size, 0, none⟩) n G) (w.drew.alloc (.cells cur 5)) := fun ty => by
    refine ⟨_, ?_, by rw [hGe]; exact hrun ty⟩
    rw [Array.size_append, size_zeroCells, size_zeroCells]
    simp [Value.cells]
    omega
  clear hrun hGe
  unfold maxLen at hM
  have h0i : (0 : Int) < (n : Int) := by omega
  go_enter Try.func38, Try.ntmps38
  go_wp2_with (at_builtin; obtain ⟨cur, hcs, hr⟩ := hrun2 _; refine Lib.wpList_append_run _ rfl _ _ _ _ rfl _ _ rfl rfl _ _ hr ?_)
  have HO : Hid (BOwn (w.drew.alloc (.cells cur 5)) w.heap.size (.slice (some ⟨w.heap.size, 0, none⟩) 0 G) []) := World.ownsRow_made w.drew cur G (Nat.le_refl _) (by unfold maxLen; omega) (by omega)
  have hB := (below_drewN (Below.refl w.heap.size w) 1).alloc (Nat.le_refl _) (.cells cur 5)
  clear hrun2 hr
  go_ret
  exact ⟨_, rfl, HO.out, hB⟩

/-- Rows of bytes that lie in a row, and what they are put together. -/
def Parts10 (w : World) (g : Nat) (ps : List (Option Addr × Nat × Nat × List Int)) : Prop := ∀ i p, ps[i]? = some p → w.cell? ⟨g, i, none⟩ = some (.slice p.1 p.2.1 p.2.2.1) ∧ Byts w p.1 p.2.1 p.2.2.1 p.2.2.2 ∧ (p.1 = none → p.2.2.1 = 0)
def catL (ps : List (Option Addr × Nat × Nat × List Int)) : List Int := (ps.map (·.2.2.2)).flatten
theorem Parts10.below {w w' : World} {g : Nat} {ps : List (Option Addr × Nat × Nat × List Int)} (h : Parts10 w g ps) (hb : Below w.heap.size w w') : Parts10 w' g ps := fun i p hp => ⟨bkeep hb (h i p hp).1 rfl, (h i p hp).2.1.below hb, (h i p hp).2.2⟩
theorem catL_snoc {ps : List (Option Addr × Nat × Nat × List Int)} {i : Nat} {p : Option Addr × Nat × Nat × List Int} (h : ps[i]? = some p) : catL (ps.take (i + 1)) = catL (ps.take i) ++ p.2.2.2 := by
  unfold catL
  rw [List.take_add_one, h]
  simp
theorem catL_le (ps : List (Option Addr × Nat × Nat × List Int)) (i : Nat) : (catL (ps.take i)).length ≤ (catL ps).length := by
  have e : catL ps = catL (ps.take i) ++ catL (ps.drop i) := by
    unfold catL
    rw [← List.flatten_append, ← List.map_append, List.take_append_drop]
  rw [e, List.length_append]
  omega

set_option maxRecDepth 20000 in
set_option maxHeartbeats 1600000 in
theorem concat10_any (g c : Nat) (ps : List (Option Addr × Nat × Nat × List Int)) (n : Nat) (w : World) (hn : ps.length = n) (hn0 : n ≤ c) (hn1 : c ≤ 1000) (h : Parts10 w g ps) (h0 : 0 < (catL ps).length) (hlen : (catL ps).length ≤ 140737488355328) :
    Calls Try.prog 14 #[.slice (some ⟨g, 0, none⟩) n c] w fun e w' => ∃ v, e = .returned v ∧ BOwn w' w.heap.size v (catL ps) ∧ Below w.heap.size w w' := by
  have H : Hid (Parts10 w g ps) := h
  have HN : Hid (ps.length = n) := hn
  obtain ⟨T, hT⟩ : ∃ T, T = (catL ps).length := ⟨_, rfl⟩
  rw [← hT] at h0 hlen
  have HT : Hid (T = (catL ps).length) := hT
  clear h hn hT
  go_enter Try.func14, Try.ntmps14
  go_wp2
  go_loopw [3, 11] (fun v3 v11 wr => ∃ s i : Nat, v3 = .int .i64 s ∧ v11 = .int .i64 i ∧ i ≤ n ∧ s ≤ 140737488355328 ∧ Hid (s = (catL (ps.take i)).length) ∧ w = wr) (fun _ v11 _ => n - (intOf v11).toNat)
  case atStart => exact ⟨0, 0, rfl, rfl, by omega, by omega, by show _ = _; simp [catL], rfl⟩
  case round =>
    obtain ⟨s, i, rfl, rfl, hi, hs, HS, rfl⟩ := hrel
    by_cases hlt : i < n
    · have hlti : (i : Int) < (n : Int) := by omega
      obtain ⟨⟨pa, pl, pc, zs⟩, hp⟩ : ∃ p, ps[i]? = some p := ⟨_, List.getElem?_eq_getElem (by rw [HN.out]; exact hlt)⟩
      obtain ⟨k1, k2, -⟩ := H.out i _ hp
      simp only at k1 k2
      have e := catL_snoc hp
      have hle := catL_le ps (i + 1)
      rw [e, List.length_append, ← HS.out, k2.hlen, ← HT.out] at hle
      have HS2 : Hid (s + pl = (catL (ps.take (i + 1))).length) := by
        show _ = _
        rw [e, List.length_append, ← HS.out, k2.hlen]
      have hnn : decide ((s : Int) + (pl : Int) < 0) = false := decide_eq_false (by omega)
      clear HS hp k2 e
      go_wp2
      go_roundw
      case rel => exact ⟨s + pl, i + 1, by go_num, by go_num, by omega, by omega, HS2, by first | rfl | trivial⟩
      case measure => simp [intOf]; omega
    · obtain rfl : n = i := by omega
      obtain rfl : T = s := by rw [HS.out, HT.out, List.take_of_length_le (by rw [HN.out]; exact Nat.le_refl _)]
      clear HS
      go_wp2_with fail
      refine (grow10_any T _ h0 hlen).mono ?_
      rintro e w1 ⟨v, rfl, hown, hb1⟩
      go_wp2
      go_loopw [6, 27] (fun v6 v27 wr => ∃ i : Nat, v27 = .int .i64 i ∧ i ≤ n ∧ BOwn wr w.heap.size v6 (catL (ps.take i)) ∧ Below w.heap.size w wr) (fun _ v27 _ => n - (intOf v27).toNat)
      case atStart => exact ⟨0, rfl, by omega, by simpa [catL] using hown, hb1⟩
      case round =>
        obtain ⟨i, rfl, hi, hO, hb⟩ := hrel
        clear hown hb1
        by_cases hlt : i < n
        · have hlti : (i : Int) < (n : Int) := by omega
          obtain ⟨⟨pa, pl, pc, zs⟩, hp⟩ : ∃ p, ps[i]? = some p := ⟨_, List.getElem?_eq_getElem (by rw [HN.out]; exact hlt)⟩
          obtain ⟨k1, k2, k3⟩ := (H.out.below hb) i _ hp
          simp only at k1 k2 k3
          have e := catL_snoc hp
          have hle := catL_le ps (i + 1)
          rw [e, List.length_append, k2.hlen, ← HT.out] at hle
          have HE : Hid (catL (ps.take (i + 1)) = catL (ps.take i) ++ zs) := e
          have hsz := hb.size
          clear hp e
          go_wp2_with (at_builtin; refine wpList_appBW _ rfl _ _ 32 rfl Try.underlying32 w.heap.size _ _ rfl hO pa pl pc zs rfl k2 k3 ?c1 w ?c2 hb ?_)
          case c1 => omega
          case c2 => exact hsz
          rintro v' w2 hO2 hb2 -
          rw [← HE.out] at hO2
          clear hO hb k1 k2 k3
          go_wp2
          go_roundw
          case rel => exact ⟨i + 1, by go_num, by omega, hO2, hb2⟩
          case measure => simp [intOf]; omega
        · obtain rfl : n = i := by omega
          rw [List.take_of_length_le (by rw [HN.out]; exact Nat.le_refl _)] at hO
          go_wp2
          go_ret
          exact ⟨_, rfl, hO, hb⟩
/-- A row of bytes that may be handed on. -/
def PB (w : World) (a : Option Addr) (l c : Nat) (zs : List Int) : Prop := Byts w a l c zs ∧ (a = none → c = 0)
theorem PB.below {w w' : World} {a : Option Addr} {l c : Nat} {zs : List Int} (h : PB w a l c zs) (hb : Below w.heap.size w w') : PB w' a l c zs := ⟨h.1.below hb, h.2⟩
theorem bdrX (w : World) : Below w.heap.size w w.drew := ⟨rfl, rfl, rfl, Nat.le_refl _, fun _ _ => rfl⟩
theorem PB.drew {w : World} {a : Option Addr} {l c : Nat} {zs : List Int} (h : PB w a l c zs) : PB w.drew a l c zs := h.below (bdrX w)
theorem PB.grow {w : World} {a : Option Addr} {l c : Nat} {zs : List Int} (h : PB w a l c zs) (o : Obj) : PB (w.alloc o) a l c zs := h.below (balloc w o)
theorem PB.lit1 (w : World) (x : Int) (hx : 0 ≤ x ∧ x < 256) : PB (w.alloc (.cells #[.int .u8 x] 5)) (some ⟨w.heap.size, 0, none⟩) 1 1 [x] := by
  refine ⟨⟨rfl, Nat.le_refl _, by unfold maxLen; omega, fun _ => ⟨w.heap.size, 0, rfl, fun i hi => ?_⟩, fun v hv => ?_⟩, fun e => by cases e⟩
  · obtain rfl : i = 0 := by omega
    simp
  · simp at hv
    rw [hv]; exact hx
theorem bdrX' {V w : World} (h : Below V.heap.size V w) : Below V.heap.size V w.drew := ⟨h.os, h.tape, h.output, h.size, h.block⟩
theorem bgrX {V w : World} (h : Below V.heap.size V w) (o : Obj) : Below V.heap.size V (w.alloc o) := h.alloc h.size o
theorem BOwn.base {w : World} {b b' : Nat} {v : Value} {zs : List Int} (h : BOwn w b v zs) (hb : b' ≤ b) : BOwn w b' v zs := by
  obtain ⟨h1, h2 | ⟨g, cap, cur, h2, h3, h4⟩⟩ := h
  · exact ⟨h1, .inl h2⟩
  · exact ⟨h1, .inr ⟨g, cap, cur, h2, Nat.le_trans hb h3, h4⟩⟩
theorem PB.own {w : World} {base : Nat} {v : Value} {zs : List Int} (h : BOwn w base v zs) (hd : Digs 256 zs) : ∃ a l c, v = .slice a l c ∧ PB w a l c zs := by
  obtain ⟨a, n, cp, rfl, hB, -, nn⟩ := h.fresh hd
  exact ⟨a, n, cp, rfl, hB, nil9 nn⟩
theorem cell4_0 (w : World) (x y z u : Value) (t : TypeId) : (w.alloc (.cells #[x, y, z, u] t)).cell? ⟨w.heap.size, 0, none⟩ = some x := by simp
theorem cell4_1 (w : World) (x y z u : Value) (t : TypeId) : (w.alloc (.cells #[x, y, z, u] t)).cell? ⟨w.heap.size, 1, none⟩ = some y := by simp
theorem cell4_2 (w : World) (x y z u : Value) (t : TypeId) : (w.alloc (.cells #[x, y, z, u] t)).cell? ⟨w.heap.size, 2, none⟩ = some z := by simp
theorem cell4_3 (w : World) (x y z u : Value) (t : TypeId) : (w.alloc (.cells #[x, y, z, u] t)).cell? ⟨w.heap.size, 3, none⟩ = some u := by simp

theorem cell4s_0 (w : World) (o : Obj) (x y z u : Value) (t : TypeId) : ((w.alloc o).alloc (.cells #[x, y, z, u] t)).cell? ⟨w.heap.size + 1, 0, none⟩ = some x := by have := cell4_0 (w.alloc o) x y z u t; rwa [World.size_alloc] at this
theorem cell4s_1 (w : World) (o : Obj) (x y z u : Value) (t : TypeId) : ((w.alloc o).alloc (.cells #[x, y, z, u] t)).cell? ⟨w.heap.size + 1, 1, none⟩ = some y := by have := cell4_1 (w.alloc o) x y z u t; rwa [World.size_alloc] at this
theorem cell4s_2 (w : World) (o : Obj) (x y z u : Value) (t : TypeId) : ((w.alloc o).alloc (.cells #[x, y, z, u] t)).cell? ⟨w.heap.size + 1, 2, none⟩ = some z := by have := cell4_2 (w.alloc o) x y z u t; rwa [World.size_alloc] at this
theorem cell4s_3 (w : World) (o : Obj) (x y z u : Value) (t : TypeId) : ((w.alloc o).alloc (.cells #[x, y, z, u] t)).cell? ⟨w.heap.size + 1, 3, none⟩ = some u := by have := cell4_3 (w.alloc o) x y z u t; rwa [World.size_alloc] at this
end Go.Proofs.Ytnbdbahfekneoab
