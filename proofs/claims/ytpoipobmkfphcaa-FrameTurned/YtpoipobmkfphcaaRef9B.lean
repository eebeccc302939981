/-
  The document's reader in memory; contracts of its Left and next.
-/
import Derived.Test.YtpoipobmkfphcaaRef9A
import Derived.Test.YtpoipobmkfphcaaModA
import Derived.BigQuiet
namespace Go.Proofs.Ytpoipobmkfphcaa
open Go.RowKit

/-- At block g lies a reader of the document's, whose bytes that are not read are L. -/
def RRdAt (w : World) (g : Nat) (L : List Int) : Prop := ∃ a l c, ∃ u : Nat, ∃ F : List Int, u ≤ l ∧ l ≤ 140737488355300 ∧ L = F.drop u ∧ w.heap[g]? = some (.cells #[.slice a l c, .int .i64 u] 51 (0, 0)) ∧ Byts w a l c F ∧ (a = none → c = 0)
theorem RRdAt.lt {w : World} {g : Nat} {L : List Int} (h : RRdAt w g L) : g < w.heap.size := by
  obtain ⟨a, l, c, u, F, h0, hu, hL, h1, _⟩ := h
  exact (Array.getElem?_eq_some_iff.1 h1).1
theorem RRdAt.head {w : World} {g : Nat} {L : List Int} (h : RRdAt w g L) : Head w g := by
  obtain ⟨a, l, c, u, F, h0, hu, hL, h1, _⟩ := h
  refine ⟨_, _, h1, fun j x => ?_⟩
  match j with
  | 0 => simp
  | 1 => simp
  | j + 2 => simp
theorem RRdAt.below {w w' : World} {g : Nat} {L : List Int} (h : RRdAt w g L) (hb : Below w.heap.size w w') : RRdAt w' g L := by
  have hl := h.lt
  obtain ⟨a, l, c, u, F, h0, hu, hL, h1, h2, h3⟩ := h
  exact ⟨a, l, c, u, F, h0, hu, hL, (hb.block g hl).trans h1, h2.below hb, h3⟩
theorem RRdAt.apart {w w' : World} {g k : Nat} {L : List Int} (h : RRdAt w g L) (hg : w.grownBy w' (some k)) (hk : Head w k) (hne : g ≠ k) : RRdAt w' g L := by
  have hl := h.lt
  obtain ⟨a, l, c, u, F, h0, hu, hL, h1, h2, h3⟩ := h
  exact ⟨a, l, c, u, F, h0, hu, hL, (hg.block g hl (fun e => hne (by simpa using e))).trans h1, h2.head hg hk, h3⟩
theorem RRdAt.len {w : World} {g : Nat} {L : List Int} (h : RRdAt w g L) : L.length ≤ 140737488355300 := by
  obtain ⟨a, l, c, u, F, h0, hu, rfl, h1, h2, h3⟩ := h
  have := h2.hlen
  simp; omega
theorem RRdAt.digs {w : World} {g : Nat} {L : List Int} (h : RRdAt w g L) : Digs 256 L := by
  obtain ⟨a, l, c, u, F, h0, hu, rfl, h1, h2, h3⟩ := h
  exact fun x hx => h2.word x (List.mem_of_mem_drop hx)

set_option maxHeartbeats 400000 in
theorem r9left_any (g : Nat) (L : List Int) (w : World) (h : RRdAt w g L) :
    Calls Try.prog 31 #[.pointer (some ⟨g, 0, none⟩)] w fun e w' => e = .returned (.int .i64 (L.length : Int)) ∧ Below w.heap.size w w' := by
  obtain ⟨a, l, c, u, F, hu, h0, hL, h1, h2, h3⟩ := h
  have hl := h2.hlen
  have hm := h2.hmax
  have hcp := h2.hcap
  unfold maxLen at hm
  have hc : w.cell? ⟨g, 0, none⟩ = some (.slice a l c) := by rw [cell_of_row w g 0 _ _ _ h1]; rfl
  have hc1 : w.cell? ⟨g, 1, none⟩ = some (.int .i64 u) := by rw [cell_of_row w g 1 _ _ _ h1]; rfl
  have HE : Hid ((L.length : Int) = (l : Int) - (u : Int)) := by show _ = _; rw [hL]; simp; omega
  clear h1 h2 hl hL h3
  go_enter Try.func31, Try.ntmps31
  go_wp2_with fail
  go_quiet (fail)
  go_wp2
  go_ret
  exact ⟨ret_int HE.out.symm, ⟨rfl, rfl, rfl, Nat.le_refl _, fun _ _ => rfl⟩⟩

theorem take_snoc9 {L : List Int} {k : Nat} (hk : k < L.length) : L.take (k + 1) = L.take k ++ [L.getD k 0] := by
  rw [List.take_add_one]
  simp [List.getD, hk]
theorem drop_cons9 {L : List Int} {k : Nat} (hk : k < L.length) : L = L.take k ++ L.getD k 0 :: L.drop (k + 1) := by
  have e : L.getD k 0 = L[k] := by simp [List.getD, hk]
  rw [e, ← List.drop_eq_getElem_cons hk, List.take_append_drop]
theorem pow128 {k : Nat} (hk : k ≤ 9) : 0 < 128 ^ k ∧ 128 ^ k ≤ 9223372036854775808 := by
  have h : 128 ^ k ≤ 128 ^ 9 := Nat.pow_le_pow_right (by omega) hk
  have e : (128 : Nat) ^ 9 = 9223372036854775808 := by decide
  exact ⟨Nat.pow_pos (by omega), by omega⟩
/-- The number with one digit more. -/
theorem next_bd {L : List Int} {k D : Nat} (hp : Hi (L.take k)) (hk : k ≤ 9) (hL : k < L.length) (hD : D < 128) (h9 : k = 9 → D ≤ 1) : D * 128 ^ k < 18446744073709551616 ∧ loV (L.take k) + D * 128 ^ k < 18446744073709551616 := by
  have h1 := loV_lt hp
  have e : (L.take k).length = k := by simp; omega
  rw [e] at h1
  have h2 := pow128 hk
  rcases Nat.lt_or_ge k 9 with c | c
  · have h3 : 128 ^ k * 128 ≤ 128 ^ 8 * 128 := Nat.mul_le_mul_right 128 (Nat.pow_le_pow_right (by omega) (by omega))
    have e8 : (128 : Nat) ^ 8 * 128 = 9223372036854775808 := by decide
    have h4 : D * 128 ^ k ≤ 127 * 128 ^ k := Nat.mul_le_mul_right _ (by omega)
    omega
  · obtain rfl : k = 9 := by omega
    have e9 : (128 : Nat) ^ 9 = 9223372036854775808 := by decide
    have := h9 rfl
    have h4 : D * 128 ^ 9 ≤ 1 * 128 ^ 9 := Nat.mul_le_mul_right _ (by omega)
    omega

theorem wrap_128 (P : Nat) : IntKind.u64.wrap ((P : Int) * 128) = ((P * 128 % 18446744073709551616 : Nat) : Int) := by
  have e : ∀ z : Int, IntKind.u64.wrap z = z % 18446744073709551616 := fun z => by simp [IntKind.wrap, IntKind.signed, IntKind.bits]
  rw [e]
  omega

/-- What a call tells of what stands next. -/
def NxT (L : List Int) (w : World) (e : Ending) (w' : World) : Prop := ∃ n k : Nat, e = .returned (.tuple #[.int .u64 n, .int .i64 k]) ∧ NextT L n k ∧ Below w.heap.size w w'

set_option maxRecDepth 20000 in
set_option maxHeartbeats 6400000 in
theorem r9next_any (g : Nat) (L : List Int) (w : World) (h : RRdAt w g L) :
    Calls Try.prog 39 #[.pointer (some ⟨g, 0, none⟩)] w fun e w' => NxT L w e w' := by
  have hdg := h.digs
  obtain ⟨a, l, c, u, F, hu, h0, hL, h1, h2, h3⟩ := h
  have hl := h2.hlen
  have hm := h2.hmax
  have hcp := h2.hcap
  unfold maxLen at hm
  have hc0 : w.cell? ⟨g, 0, none⟩ = some (.slice a l c) := by rw [cell_of_row w g 0 _ _ _ h1]; rfl
  have hc1 : w.cell? ⟨g, 1, none⟩ = some (.int .i64 u) := by rw [cell_of_row w g 1 _ _ _ h1]; rfl
  have HLl : Hid (L.length + u = l ∧ ∀ k, F.getD (u + k) 0 = L.getD k 0) := ⟨by rw [hL]; simp; omega, fun k => by rw [hL]; simp [List.getD]⟩
  have HDg : Hid (Digs 256 L) := hdg
  have HBy : Hid (Byts w a l c F) := h2
  clear h1 h2 hl hL h3 hdg
  go_enter Try.func39, Try.ntmps39
  go_wp2_with fail
  go_loopw [4, 5, 6] (fun v4 v5 v6 wr => ∃ k N P : Nat, v4 = .int .u64 N ∧ v5 = .int .u64 P ∧ v6 = .int .i64 k ∧ k ≤ 10 ∧ P < 18446744073709551616 ∧ N < 18446744073709551616 ∧ Hid (k ≤ L.length ∧ Hi (L.take k) ∧ (k ≤ 9 → N = loV (L.take k) ∧ P = 128 ^ k)) ∧ Below w.heap.size w wr) (fun _ _ v6 _ => 10 - (intOf v6).toNat)
  case atStart => exact ⟨0, 0, 1, rfl, rfl, rfl, by omega, by omega, by omega, ⟨by omega, fun x hx => by simp at hx, fun _ => ⟨by simp [loV], by simp⟩⟩, Below.refl _ _⟩
  case round =>
    obtain ⟨k, N, P, rfl, rfl, rfl, hk, hP, hN, HI, hbr⟩ := hrel
    obtain ⟨i1, i2, i3⟩ := HI.out
    have hLl := HLl.out.1
    replace hc0 := bkeep hbr hc0 rfl
    replace hc1 := bkeep hbr hc1 rfl
    by_cases hend : k < L.length
    · by_cases h10 : k = 10
      · subst h10
        have hlt : ((u : Int) + 10) < (l : Int) := by omega
        have HF : Hid (NextT L 0 0) := .inr ⟨rfl, rfl, by
          have e : L = L.take 10 ++ L.drop 10 := (List.take_append_drop 10 L).symm
          rw [e]
          exact no_long i2 (by simp; omega)⟩
        clear i1 i2 i3 HI HBy
        go_wp2_with fail
        go_quiet (fail)
        go_wp2
        go_ret2
        exact ⟨0, 0, rfl, HF.out, ⟨hbr.os, hbr.tape, hbr.output, hbr.size, hbr.block⟩⟩
      · have hk9 : k ≤ 9 := by omega
        have hlt : ((u : Int) + (k : Int)) < (l : Int) := by omega
        have hki : (k : Int) < 10 := by omega
        obtain ⟨eN, eP⟩ := i3 hk9
        obtain ⟨b, off, rfl, hcell⟩ := (HBy.out.below hbr).cells (by omega)
        have hx := hcell (u + k) (by omega)
        rw [HLl.out.2 k] at hx
        have hwd : 0 ≤ L.getD k 0 ∧ L.getD k 0 < 256 := HDg.out.getD (by decide) k
        obtain ⟨X, hX⟩ := Int.eq_ofNat_of_zero_le hwd.1
        rw [hX] at hx hwd
        have hX256 : X < 256 := by omega
        have hsn := take_snoc9 hend
        have hdc := drop_cons9 hend
        rw [hX] at hsn hdc
        have hlen : (L.take k).length = k := by simp; omega
        clear hcell hwd i3
        by_cases hbad : k = 9 ∧ 1 < X % 128
        · obtain ⟨rfl, hD⟩ := hbad
          have hDi : (1 : Int) < (X : Int) % 128 := by omega
          have hlt' : ((u : Int) + 9) < (l : Int) := by omega
          clear hlt hki
          have HF : Hid (NextT L 0 0) := .inr ⟨rfl, rfl, by
            rw [hdc]
            exact no_tenth i2 hlen (by omega)⟩
          clear i1 i2 HI HBy hsn hdc hlen eN eP hX
          go_wp2_with fail
          go_quiet (fail)
          go_wp2_with fail
          go_quiet (fail)
          go_wp2
          go_ret2
          exact ⟨0, 0, rfl, HF.out, ⟨hbr.os, hbr.tape, hbr.output, hbr.size, hbr.block⟩⟩
        obtain ⟨m1, m2⟩ := next_bd (D := X % 128) i2 hk9 hend (by omega) (fun e => by omega)
        rw [← eP] at m1 m2
        rw [← eN] at m2
        have hgd : ((k : Int) == 9) = false ∨ (((k : Int) == 9) = true ∧ decide ((1 : Int) < (X : Int) % 128) = false) := by
          by_cases e : k = 9
          · right
            subst e
            exact ⟨rfl, decide_eq_false (by omega)⟩
          · left
            simp
            omega
        obtain ⟨M, hM⟩ : ∃ M : Nat, M = X % 128 * P := ⟨_, rfl⟩
        rw [← hM] at m1 m2
        have hMi : (X : Int) % 128 * (P : Int) = (M : Int) := by rw [hM, Int.natCast_mul, Int.natCast_emod]; rfl
        have HM : Hid (M = X % 128 * P ∧ P = 128 ^ k ∧ N = loV (L.take k)) := ⟨hM, eP, eN⟩
        clear hM eP eN
        by_cases hmo : 128 ≤ X
        · have hmi : (128 : Int) ≤ (X : Int) := by omega
          have HS : Hid (k + 1 ≤ L.length ∧ Hi (L.take (k + 1)) ∧ (k + 1 ≤ 9 → N + M = loV (L.take (k + 1)) ∧ (P * 128) % 18446744073709551616 = 128 ^ (k + 1))) := by
            obtain ⟨q1, q2, q3⟩ := HM.out
            refine ⟨by omega, by rw [hsn]; exact i2.snoc ⟨by omega, by omega⟩, fun h9 => ⟨?_, ?_⟩⟩
            · rw [hsn, loV_snoc, hlen, q1, q2, q3]
              have e : ((X : Int) - 128).toNat = X % 128 := by omega
              rw [e]
            · have := pow128 h9
              rw [q2, ← Nat.pow_succ]
              exact Nat.mod_eq_of_lt (by omega)
          clear i1 i2 HI HBy hsn hdc hlen hX HM hend
          rcases hgd with g1 | ⟨g1, g2⟩
          · go_wp2_with fail
            go_quiet (fail)
            go_wp2_with fail
            go_quiet (fail)
            go_wp2
            go_roundw
            case rel => exact ⟨k + 1, N + M, P * 128 % 18446744073709551616, by simp, by rw [wrap_128], by simp, by omega, Nat.mod_lt _ (by decide), by omega, HS, ⟨hbr.os, hbr.tape, hbr.output, hbr.size, hbr.block⟩⟩
            case measure => simp [intOf]; omega
          · go_wp2_with fail
            go_quiet (fail)
            go_wp2_with fail
            go_quiet (fail)
            go_wp2
            go_roundw
            case rel => exact ⟨k + 1, N + M, P * 128 % 18446744073709551616, by simp, by rw [wrap_128], by simp, by omega, Nat.mod_lt _ (by decide), by omega, HS, ⟨hbr.os, hbr.tape, hbr.output, hbr.size, hbr.block⟩⟩
            case measure => simp [intOf]; omega
        · have hmi : decide ((128 : Int) ≤ (X : Int)) = false := decide_eq_false (by omega)
          by_cases hz : 0 < k ∧ X = 0
          · obtain ⟨hz1, rfl⟩ := hz
            have hz1i : (0 : Int) < (k : Int) := by omega
            have HF : Hid (NextT L 0 0) := .inr ⟨rfl, rfl, by
              rw [hdc]
              exact no_zero i2 (fun e => by rw [e] at hlen; simp at hlen; omega)⟩
            clear i1 i2 HI HBy hsn hdc hlen hX HM hend
            rcases hgd with g1 | ⟨g1, g2⟩
            · go_wp2_with fail
              go_quiet (fail)
              go_wp2_with fail
              go_quiet (fail)
              go_wp2
              go_ret2
              exact ⟨0, 0, rfl, HF.out, ⟨hbr.os, hbr.tape, hbr.output, hbr.size, hbr.block⟩⟩
            · go_wp2_with fail
              go_quiet (fail)
              go_wp2_with fail
              go_quiet (fail)
              go_wp2
              go_ret2
              exact ⟨0, 0, rfl, HF.out, ⟨hbr.os, hbr.tape, hbr.output, hbr.size, hbr.block⟩⟩
          · have HF : Hid (NextT L (N + M) (k + 1)) := .inl ⟨m2, by omega, by
              obtain ⟨q1, q2, q3⟩ := HM.out
              rw [hsn, q1, q2, q3, Nat.mod_eq_of_lt (show X < 128 by omega)]
              have := code_of (p := L.take k) (b := X) i2 (by omega) (fun e => fun h0 => hz ⟨by
                rcases Nat.eq_zero_or_pos k with c | c
                · subst c; exact absurd (by simp) e
                · exact c, h0⟩)
              rw [hlen] at this
              exact this⟩
            have hg : ¬(0 < k) ∨ (0 < k ∧ ((X : Int) % 128 == 0) = false) := by
              by_cases c : 0 < k
              · exact .inr ⟨c, by simp; omega⟩
              · exact .inl c
            clear i1 i2 HI HBy hsn hdc hlen hX HM hend hz
            rcases hgd with g1 | ⟨g1, g2⟩ <;> rcases hg with k1 | ⟨k1, k2⟩
            all_goals
              go_wp2_with fail
              go_quiet (fail)
              go_wp2_with fail
              go_quiet (fail)
              go_wp2
              go_ret2
              exact ⟨N + M, k + 1, by simp, HF.out, ⟨hbr.os, hbr.tape, hbr.output, hbr.size, hbr.block⟩⟩
    · have hlt : decide (((u : Int) + (k : Int)) < (l : Int)) = false := decide_eq_false (by omega)
      have HF : Hid (NextT L 0 0) := .inr ⟨rfl, rfl, by
        have e : L.take k = L := List.take_of_length_le (by omega)
        rw [e] at i2
        exact no_end i2⟩
      clear i1 i2 i3 HI HBy
      go_wp2_with fail
      go_quiet (fail)
      go_wp2
      go_ret2
      exact ⟨0, 0, rfl, HF.out, ⟨hbr.os, hbr.tape, hbr.output, hbr.size, hbr.block⟩⟩
end Go.Proofs.Ytpoipobmkfphcaa
