/-
  The document's reader in memory; contracts of its Left and next.
  The document's reader: Number and Int.
  The document's reader: Bytes.
-/
import Derived.Test.YtnbdbahfekneoaaC9A
import Derived.Test.YtnbdbahfekneoaaModA
import Derived.BigQuiet
import Derived.Test.YtnbdbahfekneoaaC9Back
import Derived.Test.YtnbdbahfekneoaaTapeP
import Derived.Deep.RegionHeld3
namespace Go.Proofs.Ytnbdbahfekneoaa
open Go.RowKit

/-- At block g lies a reader of the document's, whose bytes that are not read are L. -/
def RRdQ (Q : Nat → Prop) (w : World) (g : Nat) (L : List Int) : Prop := ∃ a l c, ∃ u : Nat, ∃ F : List Int, u ≤ l ∧ l ≤ 140737488355300 ∧ L = F.drop u ∧ w.heap[g]? = some (.cells #[.slice a l c, .int .i64 u] 63 (0, 0)) ∧ Byts w a l c F ∧ ((a = none → c = 0) ∧ ∀ ad, a = some ad → 0 < l → Q ad.block)
abbrev RRdAt := RRdQ (fun _ => True)
theorem RRdQ.lt {Q : Nat → Prop} {w : World} {g : Nat} {L : List Int} (h : RRdQ Q w g L) : g < w.heap.size := by
  obtain ⟨a, l, c, u, F, h0, hu, hL, h1, _⟩ := h
  exact (Array.getElem?_eq_some_iff.1 h1).1
theorem RRdQ.head {Q : Nat → Prop} {w : World} {g : Nat} {L : List Int} (h : RRdQ Q w g L) : Head w g := by
  obtain ⟨a, l, c, u, F, h0, hu, hL, h1, _⟩ := h
  refine ⟨_, _, h1, fun j x => ?_⟩
  match j with
  | 0 => simp
  | 1 => simp
  | j + 2 => simp
theorem RRdQ.below {Q : Nat → Prop} {w w' : World} {g : Nat} {L : List Int} (h : RRdQ Q w g L) (hb : Below w.heap.size w w') : RRdQ Q w' g L := by
  have hl := h.lt
  obtain ⟨a, l, c, u, F, h0, hu, hL, h1, h2, h3⟩ := h
  exact ⟨a, l, c, u, F, h0, hu, hL, (hb.block g hl).trans h1, h2.below hb, h3⟩
theorem RRdQ.apart {Q : Nat → Prop} {w w' : World} {g k : Nat} {L : List Int} (h : RRdQ Q w g L) (hg : w.grownBy w' (some k)) (hk : Head w k) (hne : g ≠ k) : RRdQ Q w' g L := by
  have hl := h.lt
  obtain ⟨a, l, c, u, F, h0, hu, hL, h1, h2, h3⟩ := h
  exact ⟨a, l, c, u, F, h0, hu, hL, (hg.block g hl (fun e => hne (by simpa using e))).trans h1, h2.head hg hk, h3⟩
theorem RRdQ.now {Q : Nat → Prop} {w : World} {g : Nat} {L : List Int} (h : RRdQ Q w g L) : RRdQ (· < w.heap.size) w g L := by
  obtain ⟨a, l, c, u, F, h0, hu, hL, h1, h2, h3, _⟩ := h
  refine ⟨a, l, c, u, F, h0, hu, hL, h1, h2, h3, fun ad e hl => ?_⟩
  obtain ⟨b, off, rfl, hc⟩ := h2.cells hl
  cases e
  exact World.block_lt_of_cell? _ _ (hc 0 hl)
theorem RRdQ.mono {Q Q' : Nat → Prop} {w : World} {g : Nat} {L : List Int} (h : RRdQ Q w g L) (hQ : ∀ b, Q b → Q' b) : RRdQ Q' w g L := by
  obtain ⟨a, l, c, u, F, h0, hu, hL, h1, h2, h3, h4⟩ := h
  exact ⟨a, l, c, u, F, h0, hu, hL, h1, h2, h3, fun ad e hl => hQ _ (h4 ad e hl)⟩
/-- What others turn, at no block that the reader has, leaves it. -/
theorem RRdQ.other {B : Nat} {w w' : World} {g : Nat} {L : List Int} (h : RRdQ (· < B) w g L) (hg : g < B) (hb : Below B w w') : RRdQ (· < B) w' g L := by
  obtain ⟨a, l, c, u, F, h0, hu, hL, h1, h2, h3, h4⟩ := h
  refine ⟨a, l, c, u, F, h0, hu, hL, (hb.block g hg).trans h1, ⟨h2.hlen, h2.hcap, h2.hmax, fun hl => ?_, h2.word⟩, h3, h4⟩
  obtain ⟨b, off, rfl, hc⟩ := h2.cells hl
  refine ⟨b, off, rfl, fun i hi => ?_⟩
  rw [World.cell?_of_block (hb.block b (h4 _ rfl hl))]
  exact hc i hi
theorem RRdQ.len {Q : Nat → Prop} {w : World} {g : Nat} {L : List Int} (h : RRdQ Q w g L) : L.length ≤ 140737488355300 := by
  obtain ⟨a, l, c, u, F, h0, hu, rfl, h1, h2, h3⟩ := h
  have := h2.hlen
  simp; omega
theorem RRdQ.digs {Q : Nat → Prop} {w : World} {g : Nat} {L : List Int} (h : RRdQ Q w g L) : Digs 256 L := by
  obtain ⟨a, l, c, u, F, h0, hu, rfl, h1, h2, h3⟩ := h
  exact fun x hx => h2.word x (List.mem_of_mem_drop hx)

theorem take_snoc9 {L : List Int} {k : Nat} (hk : k < L.length) : L.take (k + 1) = L.take k ++ [L.getD k 0] := by
  rw [List.take_add_one]
  simp [List.getD, hk]
theorem drop_cons9 {L : List Int} {k : Nat} (hk : k < L.length) : L = L.take k ++ L.getD k 0 :: L.drop (k + 1) := by
  have e : L.getD k 0 = L[k] := by simp [List.getD, hk]
  rw [e, ← List.drop_eq_getElem_cons hk, List.take_append_drop]
theorem pow128 {k : Nat} (hk : k ≤ 9) : 0 < 128 ^ k ∧ 128 ^ k ≤ 9223372036854775808 := by
  have h : 128 ^ k ≤ 128 ^ 9 := Nat.pow_le_pow_right (by omega) hk
  have e : (128 : Nat) ^ 9 = 9223372036854775808 := by decide
  exact ⟨Nat.pow_pos (by omega), by omega⟩
/-- The number with one digit more. -/
theorem next_bd {L : List Int} {k D : Nat} (hp : Hi (L.take k)) (hk : k ≤ 9) (hL : k < L.length) (hD : D < 128) (h9 : k = 9 → D ≤ 1) : D * 128 ^ k < 18446744073709551616 ∧ loV (L.take k) + D * 128 ^ k < 18446744073709551616 := by
  have h1 := loV_lt hp
  have e : (L.take k).length = k := by simp; omega
  rw [e] at h1
  have h2 := pow128 hk
  rcases Nat.lt_or_ge k 9 with c | c
  · have h3 : 128 ^ k * 128 ≤ 128 ^ 8 * 128 := Nat.mul_le_mul_right 128 (Nat.pow_le_pow_right (by omega) (by omega))
    have e8 : (128 : Nat) ^ 8 * 128 = 9223372036854775808 := by decide
    have h4 : D * 128 ^ k ≤ 127 * 128 ^ k := Nat.mul_le_mul_right _ (by omega)
    omega
  · obtain rfl : k = 9 := by omega
    have e9 : (128 : Nat) ^ 9 = 9223372036854775808 := by decide
    have := h9 rfl
    have h4 : D * 128 ^ 9 ≤ 1 * 128 ^ 9 := Nat.mul_le_mul_right _ (by omega)
    omega

theorem wrap_128 (P : Nat) : IntKind.u64.wrap ((P : Int) * 128) = ((P * 128 % 18446744073709551616 : Nat) : Int) := by
  have e : ∀ z : Int, IntKind.u64.wrap z = z % 18446744073709551616 := fun z => by simp [IntKind.wrap, IntKind.signed, IntKind.bits]
  rw [e]
  omega

/-- What a call tells of what stands next. -/
def NxT (L : List Int) (w : World) (e : Ending) (w' : World) : Prop := ∃ n k : Nat, e = .returned (.tuple #[.int .u64 n, .int .i64 k]) ∧ NextT L n k ∧ Below w.heap.size w w'

set_option maxRecDepth 20000 in
set_option maxHeartbeats 6400000 in
theorem r9next_any {Q : Nat → Prop} (g : Nat) (L : List Int) (w : World) (h : RRdQ Q w g L) :
    Calls Try.prog 57 #[.pointer (some ⟨g, 0, none⟩)] w fun e w' => NxT L w e w' := by
  have hdg := h.digs
  obtain ⟨a, l, c, u, F, hu, h0, hL, h1, h2, h3⟩ := h
  have hl := h2.hlen
  have hm := h2.hmax
  have hcp := h2.hcap
  unfold maxLen at hm
  have hc0 : w.cell? ⟨g, 0, none⟩ = some (.slice a l c) := by rw [cell_of_row w g 0 _ _ _ h1]; rfl
  have hc1 : w.cell? ⟨g, 1, none⟩ = some (.int .i64 u) := by rw [cell_of_row w g 1 _ _ _ h1]; rfl
  have HLl : Hid (L.length + u = l ∧ ∀ k, F.getD (u + k) 0 = L.getD k 0) := ⟨by rw [hL]; simp; omega, fun k => by rw [hL]; simp [List.getD]⟩
  have HDg : Hid (Digs 256 L) := hdg
  have HBy : Hid (Byts w a l c F) := h2
  clear h1 h2 hl hL h3 hdg
  go_enter Try.func57, Try.ntmps57
  go_wp2_with fail
  go_loopw [4, 5, 6] (fun v4 v5 v6 wr => ∃ k N P : Nat, v4 = .int .u64 N ∧ v5 = .int .u64 P ∧ v6 = .int .i64 k ∧ k ≤ 10 ∧ P < 18446744073709551616 ∧ N < 18446744073709551616 ∧ Hid (k ≤ L.length ∧ Hi (L.take k) ∧ (k ≤ 9 → N = loV (L.take k) ∧ P = 128 ^ k)) ∧ Below w.heap.size w wr) (fun _ _ v6 _ => 10 - (intOf v6).toNat)
  case atStart => exact ⟨0, 0, 1, rfl, rfl, rfl, by omega, by omega, by omega, ⟨by omega, fun x hx => by simp at hx, fun _ => ⟨by simp [loV], by simp⟩⟩, Below.refl _ _⟩
  case round =>
    obtain ⟨k, N, P, rfl, rfl, rfl, hk, hP, hN, HI, hbr⟩ := hrel
    obtain ⟨i1, i2, i3⟩ := HI.out
    have hLl := HLl.out.1
    replace hc0 := bkeep hbr hc0 rfl
    replace hc1 := bkeep hbr hc1 rfl
    by_cases hend : k < L.length
    · by_cases h10 : k = 10
      · subst h10
        have hlt : ((u : Int) + 10) < (l : Int) := by omega
        have HF : Hid (NextT L 0 0) := .inr ⟨rfl, rfl, by
          have e : L = L.take 10 ++ L.drop 10 := (List.take_append_drop 10 L).symm
          rw [e]
          exact no_long i2 (by simp; omega)⟩
        clear i1 i2 i3 HI HBy
        go_wp2_with fail
        go_quiet (fail)
        go_wp2
        go_ret2
        exact ⟨0, 0, rfl, HF.out, ⟨hbr.os, hbr.tape, hbr.output, hbr.size, hbr.block⟩⟩
      · have hk9 : k ≤ 9 := by omega
        have hlt : ((u : Int) + (k : Int)) < (l : Int) := by omega
        have hki : (k : Int) < 10 := by omega
        obtain ⟨eN, eP⟩ := i3 hk9
        obtain ⟨b, off, rfl, hcell⟩ := (HBy.out.below hbr).cells (by omega)
        have hx := hcell (u + k) (by omega)
        rw [HLl.out.2 k] at hx
        have hwd : 0 ≤ L.getD k 0 ∧ L.getD k 0 < 256 := HDg.out.getD (by decide) k
        obtain ⟨X, hX⟩ := Int.eq_ofNat_of_zero_le hwd.1
        rw [hX] at hx hwd
        have hX256 : X < 256 := by omega
        have hsn := take_snoc9 hend
        have hdc := drop_cons9 hend
        rw [hX] at hsn hdc
        have hlen : (L.take k).length = k := by simp; omega
        clear hcell hwd i3
        by_cases hbad : k = 9 ∧ 1 < X % 128
        · obtain ⟨rfl, hD⟩ := hbad
          have hDi : (1 : Int) < (X : Int) % 128 := by omega
          have hlt' : ((u : Int) + 9) < (l : Int) := by omega
          clear hlt hki
          have HF : Hid (NextT L 0 0) := .inr ⟨rfl, rfl, by
            rw [hdc]
            exact no_tenth i2 hlen (by omega)⟩
          clear i1 i2 HI HBy hsn hdc hlen eN eP hX
          go_wp2_with fail
          go_quiet (fail)
          go_wp2_with fail
          go_quiet (fail)
          go_wp2
          go_ret2
          exact ⟨0, 0, rfl, HF.out, ⟨hbr.os, hbr.tape, hbr.output, hbr.size, hbr.block⟩⟩
        obtain ⟨m1, m2⟩ := next_bd (D := X % 128) i2 hk9 hend (by omega) (fun e => by omega)
        rw [← eP] at m1 m2
        rw [← eN] at m2
        have hgd : ((k : Int) == 9) = false ∨ (((k : Int) == 9) = true ∧ decide ((1 : Int) < (X : Int) % 128) = false) := by
          by_cases e : k = 9
          · right
            subst e
            exact ⟨rfl, decide_eq_false (by omega)⟩
          · left
            simp
            omega
        obtain ⟨M, hM⟩ : ∃ M : Nat, M = X % 128 * P := ⟨_, rfl⟩
        rw [← hM] at m1 m2
        have hMi : (X : Int) % 128 * (P : Int) = (M : Int) := by rw [hM, Int.natCast_mul, Int.natCast_emod]; rfl
        have HM : Hid (M = X % 128 * P ∧ P = 128 ^ k ∧ N = loV (L.take k)) := ⟨hM, eP, eN⟩
        clear hM eP eN
        by_cases hmo : 128 ≤ X
        · have hmi : (128 : Int) ≤ (X : Int) := by omega
          have HS : Hid (k + 1 ≤ L.length ∧ Hi (L.take (k + 1)) ∧ (k + 1 ≤ 9 → N + M = loV (L.take (k + 1)) ∧ (P * 128) % 18446744073709551616 = 128 ^ (k + 1))) := by
            obtain ⟨q1, q2, q3⟩ := HM.out
            refine ⟨by omega, by rw [hsn]; exact i2.snoc ⟨by omega, by omega⟩, fun h9 => ⟨?_, ?_⟩⟩
            · rw [hsn, loV_snoc, hlen, q1, q2, q3]
              have e : ((X : Int) - 128).toNat = X % 128 := by omega
              rw [e]
            · have := pow128 h9
              rw [q2, ← Nat.pow_succ]
              exact Nat.mod_eq_of_lt (by omega)
          clear i1 i2 HI HBy hsn hdc hlen hX HM hend
          rcases hgd with g1 | ⟨g1, g2⟩
          · go_wp2_with fail
            go_quiet (fail)
            go_wp2_with fail
            go_quiet (fail)
            go_wp2
            go_roundw
            case rel => exact ⟨k + 1, N + M, P * 128 % 18446744073709551616, by simp, by rw [wrap_128], by simp, by omega, Nat.mod_lt _ (by decide), by omega, HS, ⟨hbr.os, hbr.tape, hbr.output, hbr.size, hbr.block⟩⟩
            case measure => simp [intOf]; omega
          · go_wp2_with fail
            go_quiet (fail)
            go_wp2_with fail
            go_quiet (fail)
            go_wp2
            go_roundw
            case rel => exact ⟨k + 1, N + M, P * 128 % 18446744073709551616, by simp, by rw [wrap_128], by simp, by omega, Nat.mod_lt _ (by decide), by omega, HS, ⟨hbr.os, hbr.tape, hbr.output, hbr.size, hbr.block⟩⟩
            case measure => simp [intOf]; omega
        · have hmi : decide ((128 : Int) ≤ (X : Int)) = false := decide_eq_false (by omega)
          by_cases hz : 0 < k ∧ X = 0
          · obtain ⟨hz1, rfl⟩ := hz
            have hz1i : (0 : Int) < (k : Int) := by omega
            have HF : Hid (NextT L 0 0) := .inr ⟨rfl, rfl, by
              rw [hdc]
              exact no_zero i2 (fun e => by rw [e] at hlen; simp at hlen; omega)⟩
            clear i1 i2 HI HBy hsn hdc hlen hX HM hend
            rcases hgd with g1 | ⟨g1, g2⟩
            · go_wp2_with fail
              go_quiet (fail)
              go_wp2_with fail
              go_quiet (fail)
              go_wp2
              go_ret2
              exact ⟨0, 0, rfl, HF.out, ⟨hbr.os, hbr.tape, hbr.output, hbr.size, hbr.block⟩⟩
            · go_wp2_with fail
              go_quiet (fail)
              go_wp2_with fail
              go_quiet (fail)
              go_wp2
              go_ret2
              exact ⟨0, 0, rfl, HF.out, ⟨hbr.os, hbr.tape, hbr.output, hbr.size, hbr.block⟩⟩
          · have HF : Hid (NextT L (N + M) (k + 1)) := .inl ⟨m2, by omega, by
              obtain ⟨q1, q2, q3⟩ := HM.out
              rw [hsn, q1, q2, q3, Nat.mod_eq_of_lt (show X < 128 by omega)]
              have := code_of (p := L.take k) (b := X) i2 (by omega) (fun e => fun h0 => hz ⟨by
                rcases Nat.eq_zero_or_pos k with c | c
                · subst c; exact absurd (by simp) e
                · exact c, h0⟩)
              rw [hlen] at this
              exact this⟩
            have hg : ¬(0 < k) ∨ (0 < k ∧ ((X : Int) % 128 == 0) = false) := by
              by_cases c : 0 < k
              · exact .inr ⟨c, by simp; omega⟩
              · exact .inl c
            clear i1 i2 HI HBy hsn hdc hlen hX HM hend hz
            rcases hgd with g1 | ⟨g1, g2⟩ <;> rcases hg with k1 | ⟨k1, k2⟩
            all_goals
              go_wp2_with fail
              go_quiet (fail)
              go_wp2_with fail
              go_quiet (fail)
              go_wp2
              go_ret2
              exact ⟨N + M, k + 1, by simp, HF.out, ⟨hbr.os, hbr.tape, hbr.output, hbr.size, hbr.block⟩⟩
    · have hlt : decide (((u : Int) + (k : Int)) < (l : Int)) = false := decide_eq_false (by omega)
      have HF : Hid (NextT L 0 0) := .inr ⟨rfl, rfl, by
        have e : L.take k = L := List.take_of_length_le (by omega)
        rw [e] at i2
        exact no_end i2⟩
      clear i1 i2 i3 HI HBy
      go_wp2_with fail
      go_quiet (fail)
      go_wp2
      go_ret2
      exact ⟨0, 0, rfl, HF.out, ⟨hbr.os, hbr.tape, hbr.output, hbr.size, hbr.block⟩⟩
end Go.Proofs.Ytnbdbahfekneoaa

namespace Go.Proofs.Ytnbdbahfekneoaa
open Go.RowKit

/-- The reader goes on. -/
theorem rrd_put {Q : Nat → Prop} {w wz : World} {g l c u k : Nat} {a : Option Addr} {F L : List Int} (hl : l ≤ 140737488355300) (hL : L = F.drop u) (hk : u + k ≤ l) (hF : Byts wz a l c F) (hn : (a = none → c = 0) ∧ ∀ ad, a = some ad → 0 < l → Q ad.block)
    (hz : wz.heap[g]? = some (.cells #[.slice a l c, .int .i64 u] 63 (0, 0))) (hb : Below w.heap.size w wz) :
    wz.frozen? ⟨g, 1, none⟩ = false ∧ RRdQ Q (wz.setCell ⟨g, 1, none⟩ (.int .i64 ((u : Int) + (k : Int)))) g (L.drop k) ∧ w.grownBy (wz.setCell ⟨g, 1, none⟩ (.int .i64 ((u : Int) + (k : Int)))) (some g) := by
  have q := grown_set wz g 1 (.int .i64 ((u : Int) + (k : Int)))
  have hh : Head wz g := ⟨_, _, hz, fun j x => by match j with | 0 => simp | 1 => simp | j + 2 => simp⟩
  refine ⟨frozen_of_row wz g 1 _ _ hz, ⟨a, l, c, u + k, F, hk, hl, by rw [hL, List.drop_drop], ?_, hF.head q hh, hn⟩, ?_⟩
  · have := heap_setCell_same wz g 1 _ _ (.int .i64 ((u : Int) + (k : Int))) hz
    simpa using this
  · refine ⟨q.os.trans hb.os, q.tape.trans hb.tape, q.output.trans hb.output, Nat.le_trans hb.size q.size, fun j hj hne => ?_⟩
    rw [q.block j (by have := hb.size; omega) hne, hb.block j hj]

set_option maxRecDepth 20000 in
set_option maxHeartbeats 1600000 in
theorem r9rnum_any {Q : Nat → Prop} (g : Nat) (L : List Int) (most : Nat) (w : World) (h : RRdQ Q w g L) :
    Calls Try.prog 35 #[.pointer (some ⟨g, 0, none⟩), .int .u64 most] w fun e w' => NumT (RRdQ Q) w g L most e w' := by
  have HT : Hid (RRdQ Q w g L) := h
  go_enter Try.func35, Try.ntmps35
  go_wp2_with fail
  refine (r9next_any g L _ HT.out).mono ?_
  rintro e w1 ⟨n, k, rfl, hN, hb⟩
  have HN : Hid (NextT L n k) := hN
  have hA := HT.out.below hb
  by_cases hk0 : k = 0
  · subst hk0
    have HR : Hid (NumT (RRdQ Q) w g L most (.returned (.tuple #[.int .u64 0, .int .i64 13])) w1) := ⟨0, 13, L, rfl, ⟨n, 0, hN, .inl ⟨.inl rfl, rfl, rfl, rfl⟩⟩, hA, grown_of_below hb _⟩
    clear HN hN hA
    go_wp2
    go_ret2
    exact HR.out
  obtain ⟨n1, n2, -⟩ := hN.pos hk0
  have hki : ((k : Int) == 0) = false := by simp; omega
  by_cases hm : most < n
  · have HR : Hid (NumT (RRdQ Q) w g L most (.returned (.tuple #[.int .u64 0, .int .i64 13])) w1) := ⟨0, 13, L, rfl, ⟨n, k, hN, .inl ⟨.inr hm, rfl, rfl, rfl⟩⟩, hA, grown_of_below hb _⟩
    have hmi : (most : Int) < (n : Int) := by omega
    clear HN hN hA
    go_wp2
    go_ret2
    exact HR.out
  · have hmi : decide ((most : Int) < (n : Int)) = false := decide_eq_false (by omega)
    obtain ⟨a, l, c, u, F, hu, h0, hL, h1, h2, h3⟩ := hA
    have hl := h2.hlen
    have hLl : L.length + u = l := by rw [hL]; simp; omega
    obtain ⟨f1, f2, f3⟩ := rrd_put h0 hL (k := k) (by omega) h2 h3 h1 hb
    have hc1 : w1.cell? ⟨g, 1, none⟩ = some (.int .i64 u) := by rw [cell_of_row w1 g 1 _ _ _ h1]; rfl
    have HR : Hid (NumT (RRdQ Q) w g L most (.returned (.tuple #[.int .u64 n, .int .i64 0])) (w1.setCell ⟨g, 1, none⟩ (.int .i64 ((u : Int) + (k : Int))))) := ⟨n, 0, L.drop k, rfl, ⟨n, k, hN, .inr ⟨by omega, rfl, rfl, rfl⟩⟩, f2, f3⟩
    have hgl := (Array.getElem?_eq_some_iff.1 h1).1
    clear HN hN h1 h2 hL f2 f3 hl h
    go_wp2
    go_ret2
    exact HR.out

end Go.Proofs.Ytnbdbahfekneoaa

namespace Go.Proofs.Ytnbdbahfekneoaa
open Go.RowKit

theorem rbyt_end {Q : Nat → Prop} {w wz w2 : World} {g k m : Nat} {most : Int} {E L : List Int} {v : Value} (hA : RRdQ Q wz g (L.drop (k + m))) (hgw : w.grownBy wz (some g)) (hb2 : Below wz.heap.size wz w2) (hE : E = (L.drop k).take m) (hd : Digs 256 E)
    (hR : ResBytR L most ((L.drop k).take m) 0 (L.drop (k + m))) (hown : BOwn w2 wz.heap.size v ([] ++ E)) :
    ∃ a1 n1 c1, v = .slice a1 n1 c1 ∧ BytT (RRdQ Q) w g L most (.returned (.tuple #[.slice a1 n1 c1, .int .i64 0])) w2 := by
  subst hE
  obtain ⟨a1, n1, c1, rfl, q1, qb, nn⟩ := hown.fresh (by rw [List.nil_append]; exact hd)
  rw [List.nil_append] at q1
  refine ⟨a1, n1, c1, rfl, a1, n1, c1, _, 0, _, rfl, ⟨q1, nil9 nn, fun ad e h0 => by
    obtain ⟨q, e2, hq, cur, hqc, -⟩ := qb h0
    rw [e] at e2
    cases e2
    exact ⟨Nat.le_trans hgw.size hq, cur, hqc⟩⟩, hR, hA.below hb2, ?_⟩
  refine ⟨hb2.os.trans hgw.os, hb2.tape.trans hgw.tape, hb2.output.trans hgw.output, Nat.le_trans hgw.size hb2.size, fun j hj hne => ?_⟩
  rw [hb2.block j (Nat.lt_of_lt_of_le hj hgw.size), hgw.block j hj hne]

set_option maxRecDepth 20000 in
set_option maxHeartbeats 6400000 in
theorem r9rbyt_any {Q : Nat → Prop} (g : Nat) (L : List Int) (most : Int) (w : World) (h : RRdQ Q w g L) (hmost : -9223372036854775808 ≤ most ∧ most < 9223372036854775808) :
    Calls Try.prog 37 #[.pointer (some ⟨g, 0, none⟩), .int .i64 most] w fun e w' => BytT (RRdQ Q) w g L most e w' := by
  have HT : Hid (RRdQ Q w g L) := h
  go_enter Try.func37, Try.ntmps37
  go_wp2_with fail
  refine (r9next_any g L _ HT.out).mono ?_
  rintro e w1 ⟨n, k, rfl, hN, hb⟩
  have hA := HT.out.below hb
  have sn : ∀ j : Nat, (k = 0 ∨ most < 0 ∨ most < (n : Int) ∨ L.length - k < n) → Hid (BytT (RRdQ Q) w g L most (.returned (.tuple #[.slice none 0 0, .int .i64 13])) (w1.drewN j)) := fun j hc =>
    ⟨none, 0, 0, [], 13, L, rfl, ⟨Byts.nil _, fun _ => rfl, fun _ e => (by cases e)⟩, ⟨n, k, hN, .inl ⟨hc, rfl, rfl, rfl⟩⟩, hA.below ⟨rfl, rfl, rfl, Nat.le_refl _, fun _ _ => rfl⟩, grown_of_below (w' := w1.drewN j) ⟨hb.os, hb.tape, hb.output, hb.size, hb.block⟩ _⟩
  by_cases hk0 : k = 0
  · have HR := fun j => sn j (.inl hk0)
    have hki : ((k : Int) == 0) = true := by simp; omega
    clear hN hA sn hk0
    go_wp2_with fail
    go_quiet (fail)
    go_wp2
    go_ret2
    exact (HR _).out
  obtain ⟨n1, n2, -⟩ := hN.pos hk0
  have hki : ((k : Int) == 0) = false := by simp; omega
  by_cases hm0 : most < 0
  · have HR := fun j => sn j (.inr (.inl hm0))
    have hm0i : decide (most < 0) = true := decide_eq_true hm0
    clear hN hA sn hk0 hm0
    go_wp2_with fail
    go_quiet (fail)
    go_wp2
    go_ret2
    exact (HR _).out
  have hm0i : decide (most < 0) = false := decide_eq_false hm0
  obtain ⟨M, rfl⟩ : ∃ M : Nat, most = (M : Int) := ⟨most.toNat, by omega⟩
  have hMw : IntKind.u64.wrap (M : Int) = (M : Int) := by simp [IntKind.wrap, IntKind.signed, IntKind.bits]; omega
  by_cases hm1 : (M : Int) < (n : Int)
  · have HR := fun j => sn j (.inr (.inr (.inl hm1)))
    have hm1i : decide (M < n) = true := decide_eq_true (by omega)
    clear hN hA sn hk0 hm0
    go_wp2_with fail
    go_quiet (fail)
    go_wp2
    go_ret2
    exact (HR _).out
  have hm1i : decide (M < n) = false := decide_eq_false (by omega)
  have HA : Hid (RRdQ Q w1 g L) := hA
  have hdg := hA.digs
  obtain ⟨a, l, c, u, F, hu, h0, hL, h1, h2, h3⟩ := hA
  have hl := h2.hlen
  have hcp := h2.hcap
  have hmx := h2.hmax
  unfold maxLen at hmx
  have hLl : L.length + u = l := by rw [hL]; simp; omega
  have hc0 : w1.cell? ⟨g, 0, none⟩ = some (.slice a l c) := by rw [cell_of_row w1 g 0 _ _ _ h1]; rfl
  have hc1 : w1.cell? ⟨g, 1, none⟩ = some (.int .i64 u) := by rw [cell_of_row w1 g 1 _ _ _ h1]; rfl
  have hgl := (Array.getElem?_eq_some_iff.1 h1).1
  have hlw : IntKind.u64.wrap ((l : Int) - (u : Int) - (k : Int)) = (l : Int) - (u : Int) - (k : Int) := by simp [IntKind.wrap, IntKind.signed, IntKind.bits]; omega
  by_cases hm2 : (l : Int) - (u : Int) - (k : Int) < (n : Int)
  · have HR := fun j => sn j (.inr (.inr (.inr (by omega))))
    have hm2i : decide ((l : Int) - (u : Int) - (k : Int) < (n : Int)) = true := decide_eq_true hm2
    clear hN sn hk0 hm0 h1 h2 hL hl HA h hdg
    go_wp2_with fail
    go_quiet (fail)
    go_wp2
    go_ret2
    exact (HR _).out
  have hm2i : decide ((l : Int) - (u : Int) - (k : Int) < (n : Int)) = false := decide_eq_false hm2
  have HR : Hid (ResBytR L M ((L.drop k).take n) 0 (L.drop (k + n))) := ⟨n, k, hN, .inr ⟨by omega, rfl, rfl, rfl⟩⟩
  have hukn : u + k + n ≤ l := by omega
  obtain ⟨b, off, rfl, hcells⟩ := h2.cells (by omega)
  clear hcells
  obtain ⟨q, hq⟩ : ∃ q, u + k = q := ⟨_, rfl⟩
  obtain ⟨t, ht⟩ : ∃ t, q + n = t := ⟨_, rfl⟩
  have hqi : (u : Int) + (k : Int) = (q : Int) := by omega
  have hti : (q : Int) + (n : Int) = (t : Int) := by omega
  have HE : Hid ((F.drop q).take n = (L.drop k).take n) := by show _ = _; rw [hL, List.drop_drop, hq]
  have HD : Hid (Digs 256 ((F.drop q).take n)) := by show Digs _ _; rw [HE.out]; exact (hdg.drop k).take n
  have HF : Hid (∀ j, RRdQ Q ((w1.drewN j).setCell ⟨g, 1, none⟩ (.int .i64 (t : Int))) g (L.drop (k + n)) ∧ w.grownBy ((w1.drewN j).setCell ⟨g, 1, none⟩ (.int .i64 (t : Int))) (some g)) := fun j => by
    have := rrd_put (w := w) (wz := w1.drewN j) h0 hL (k := k + n) (by omega) (h2.below ⟨rfl, rfl, rfl, Nat.le_refl _, fun _ _ => rfl⟩) h3 h1 ⟨hb.os, hb.tape, hb.output, hb.size, hb.block⟩
    rw [show (u : Int) + ((k + n : Nat) : Int) = (t : Int) by omega] at this
    exact this.2
  have hfz : ∀ j, (w1.drewN j).frozen? ⟨g, 1, none⟩ = false := fun j => frozen_of_row _ g 1 _ _ h1
  have HX : Hid (∀ (j : Nat) (v : Value) (wx : World), Below ((w1.drewN j).setCell ⟨g, 1, none⟩ v).heap.size ((w1.drewN j).setCell ⟨g, 1, none⟩ v) wx → Byts wx (some ⟨b, off, none⟩) l c F ∧ wx.cell? ⟨g, 0, none⟩ = some (.slice (some ⟨b, off, none⟩) l c) ∧ wx.cell? ⟨g, 1, none⟩ = some v) := fun j v wx hbx => by
    have hz : (w1.drewN j).heap[g]? = some (.cells #[.slice (some ⟨b, off, none⟩) l c, .int .i64 u] 63 (0, 0)) := h1
    have hh : Head (w1.drewN j) g := ⟨_, _, hz, fun j x => by match j with | 0 => simp | 1 => simp | j + 2 => simp⟩
    have e1 := heap_setCell_same (w1.drewN j) g 1 _ _ v hz
    have e2 := (hbx.block g (by simpa using hgl)).trans e1
    refine ⟨((h2.below (w' := w1.drewN j) ⟨rfl, rfl, rfl, Nat.le_refl _, fun _ _ => rfl⟩).head (grown_set _ g 1 v) hh).below hbx, ?_, ?_⟩
    · rw [cell_of_row wx g 0 _ _ _ e2]; rfl
    · rw [cell_of_row wx g 1 _ _ _ e2]; rfl
  have hcm : c ≤ maxLen := h2.hmax
  clear hN sn hk0 hm0 h1 h2 hL hl HA h hdg
  have hql : q ≤ t := by omega
  have htl : t ≤ l := by omega
  have s1 : (q : Int) ≤ (t : Int) := by omega
  have s2 : (t : Int) ≤ (c : Int) := by omega
  have s6 : t - q = n := by omega
  have HQ : Hid (n = 0 → ∀ (wx : World) a' c', c' ≤ c → Byts wx a' n c' ((F.drop q).take n)) := fun hm0 wx a' c' h => by
    rw [hm0, List.take_zero]; exact Byts.empty (Nat.le_trans h hcm)
  have hnl : n ≤ 140737488355300 := by omega
  clear hcm
  go_wp2_with fail
  go_quiet (fail)
  go_wp2_with fail
  generalize hwz : World.setCell _ _ _ = wz
  have HG : Hid (RRdQ Q wz g (L.drop (k + n)) ∧ w.grownBy wz (some g)) := by subst hwz; exact HF.out _
  have HY : Hid (∀ wx : World, Below wz.heap.size wz wx → Byts wx (some ⟨b, off, none⟩) l c F ∧ wx.cell? ⟨g, 0, none⟩ = some (.slice (some ⟨b, off, none⟩) l c) ∧ wx.cell? ⟨g, 1, none⟩ = some (.int .i64 t)) := by subst hwz; exact fun wx h => HX.out _ _ wx h
  obtain ⟨-, z0, z1⟩ := HY.out wz (Below.refl _ _)
  have hgz : g < wz.heap.size := by subst hwz; simpa using hgl
  have hgne : g ≠ wz.heap.size := by omega
  clear hwz hc0 hc1 HF HX hfz hki hm0i hMw hm1 hm1i hm2 hm2i hlw
  by_cases hn0 : n = 0
  · replace HQ := (show Hid _ from HQ.out hn0)
    clear hn0 ht hq hti hqi
    obtain ⟨sx, hsx⟩ : ∃ sx : Option Addr, (if c = q then some ⟨b, off, none⟩ else some ⟨b, off + q, none⟩) = sx := ⟨_, rfl⟩
    have hsn : sx ≠ none := by rw [← hsx]; split <;> simp
    go_region_held3 (fun w' => w'.cell? ⟨g, 0, none⟩ = some (.slice (some ⟨b, off, none⟩) l c) ∧ w'.cell? ⟨g, 1, none⟩ = some (.int .i64 t)) (first | go_keep | (exact ⟨(hb2.cell (p := ⟨g, 0, none⟩) hgz).trans z0, (hb2.cell (p := ⟨g, 1, none⟩) hgz).trans z1⟩))
      ((refine step_appBW _ (by rfl) _ _ 28 (by rfl) Try.underlying28 wz.heap.size _ [] (by rfl) (by first | exact BOwn.empty _ | exact BOwn.empty wz) _ n _ ((F.drop q).take n) (by first | rfl | (simp; omega)) (by exact HQ.out _ _ _ (by first | exact Nat.le_refl _ | omega | (simp; done))) (by first | (intro e; exact absurd e hsn) | (intro e; cases e; done) | (intro e; split at e <;> cases e; done)) (by simp; omega) wz (by simp) (by exact ⟨rfl, rfl, rfl, by simp, fun k hk => Below.heap_alloc _ _ _ hk⟩) ?_; intro v' w2 hown hb2 _))
    all_goals
      obtain ⟨a1, n1, c1, rfl, hE⟩ := rbyt_end HG.out.1 HG.out.2 hb2 HE.out HD.out HR.out hown
      have HO := (show Hid _ from hE)
      clear hE hown hb2 HG HQ z0 z1 HY HE HD
      go_wp2
      go_ret2
      exact HO.out
  · have hcu : ¬ c = q := by omega
    have HP : Hid (∀ wx : World, Below wz.heap.size wz wx → Byts wx (some ⟨b, off + q, none⟩) n (c - q) ((F.drop q).take n)) := fun wx hb => (HY.out wx hb).1.part (by omega) (fun _ => rfl)
    clear HQ
    go_region_held3 (fun w' => w'.cell? ⟨g, 0, none⟩ = some (.slice (some ⟨b, off, none⟩) l c) ∧ w'.cell? ⟨g, 1, none⟩ = some (.int .i64 t)) (first | go_keep | (exact ⟨(hb2.cell (p := ⟨g, 0, none⟩) hgz).trans z0, (hb2.cell (p := ⟨g, 1, none⟩) hgz).trans z1⟩))
      ((refine step_appBW _ (by rfl) _ _ 28 (by rfl) Try.underlying28 wz.heap.size _ [] (by rfl) (by first | exact BOwn.empty _ | exact BOwn.empty wz) _ n _ ((F.drop q).take n) (by first | rfl | (simp; omega)) (by first | exact ((HP.out wz (Below.refl _ _)).drew.alloc _) | exact ((HP.out wz (Below.refl _ _)).alloc _).drew | exact ((HP.out wz (Below.refl _ _)).alloc _)) (by intro e; cases e) (by simp; omega) wz (by simp) (by exact ⟨rfl, rfl, rfl, by simp, fun k hk => Below.heap_alloc _ _ _ hk⟩) ?_; intro v' w2 hown hb2 _))
    all_goals
      obtain ⟨a1, n1, c1, rfl, hE⟩ := rbyt_end HG.out.1 HG.out.2 hb2 HE.out HD.out HR.out hown
      have HO := (show Hid _ from hE)
      clear hE hown hb2 HG HP z0 z1 HY HE HD
      go_wp2
      go_ret2
      exact HO.out
end Go.Proofs.Ytnbdbahfekneoaa
