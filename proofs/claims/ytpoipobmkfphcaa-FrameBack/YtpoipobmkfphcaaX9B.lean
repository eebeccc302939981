/-
  The program's reader in memory; contracts of its rest, first, New and Left, and of slices.Clone of bytes.
-/
import Derived.Test.YtpoipobmkfphcaaP9Rd
import Derived.WalkMore
namespace Go.Proofs.Ytpoipobmkfphcaa
open Go.RowKit

set_option maxHeartbeats 400000 in
theorem clone9_any (a : Option Addr) (len cap : Nat) (zs : List Int) (w : World) (h : Byts w a len cap zs) (hn : len ≤ 140737488355300) :
    Calls Try.prog 38 #[.slice a len cap] w fun e w' => ∃ a' n cap', e = .returned (.slice a' n cap') ∧ (Byts w' a' n cap' zs ∧ (a' = none → cap' = 0) ∧ ∀ ad, a' = some ad → 0 < n → w.heap.size ≤ ad.block ∧ IsB w' ad.block) ∧ Below w.heap.size w w' := by
  have hd := h.digs
  cases a with
  | none =>
    have hm : len = 0 := by
      rcases Nat.eq_zero_or_pos len with h0 | h0
      · exact h0
      · obtain ⟨b, off, e, _⟩ := h.cells h0; cases e
    subst hm
    have e : zs = [] := List.eq_nil_of_length_eq_zero h.hlen
    subst e
    have heq := fun wx => Lib.run_eql_slice_nil (P := Try.prog) wx 22 5 none 0 cap 0 0 Try.underlying22
    go_enter Try.func38, Try.ntmps38
    go_wp2
    go_ret
    exact ⟨none, 0, 0, rfl, ⟨Byts.nil _, fun _ => rfl, fun _ e => (by cases e)⟩, Below.refl _ _⟩
  | some x =>
    have heq := fun wx => Lib.run_eql_slice_nil (P := Try.prog) wx 22 5 (some x) len cap 0 0 Try.underlying22
    go_enter Try.func38, Try.ntmps38
    have hown := BOwn.empty w
    have hb0 := (Below.refl w.heap.size w).alloc (Nat.le_refl _) (.cells #[] 5)
    have h1 := h.below hb0
    go_wp2_with (at_builtin; refine wpList_appBW _ rfl _ _ 22 rfl Try.underlying22 w.heap.size _ [] rfl hown (some x) len cap zs rfl h1 ?_ ?_ w ?_ hb0 ?_)
    · intro e; cases e
    · simp; omega
    · simp
    · intro v' w2 hown1 hb1 _
      obtain ⟨a1, n1, cap1, rfl, hn1, qb, nn⟩ := hown1.fresh hd
      have HO : Hid (Byts w2 a1 n1 cap1 zs ∧ (a1 = none → cap1 = 0) ∧ ∀ ad, a1 = some ad → 0 < n1 → w.heap.size ≤ ad.block ∧ IsB w2 ad.block) := ⟨hn1, nil9 nn, fun ad e h0 => by
        obtain ⟨q, e2, hq, cur, hqc, -⟩ := qb h0
        rw [e] at e2
        cases e2
        exact ⟨hq, cur, hqc⟩⟩
      clear hown1 hown h1 hb0 qb nn hn1
      go_wp2
      go_ret
      exact ⟨_, _, _, rfl, HO.out, hb1⟩

/-- At block g lies a reader of the program's, whose bytes that are not read are L. -/
def CRdAt (w : World) (g : Nat) (L : List Int) : Prop := ∃ a l c, l ≤ 140737488355300 ∧ w.heap[g]? = some (.cells #[.slice a l c] 61 (0, 0)) ∧ Byts w a l c L ∧ (a = none → c = 0)
theorem CRdAt.lt {w : World} {g : Nat} {L : List Int} (h : CRdAt w g L) : g < w.heap.size := by
  obtain ⟨a, l, c, _, h1, _⟩ := h
  exact (Array.getElem?_eq_some_iff.1 h1).1
theorem CRdAt.head {w : World} {g : Nat} {L : List Int} (h : CRdAt w g L) : Head w g := by
  obtain ⟨a, l, c, _, h1, _⟩ := h
  refine ⟨_, _, h1, fun j x => ?_⟩
  match j with
  | 0 => simp
  | j + 1 => simp
theorem CRdAt.below {w w' : World} {g : Nat} {L : List Int} (h : CRdAt w g L) (hb : Below w.heap.size w w') : CRdAt w' g L := by
  have hl := h.lt
  obtain ⟨a, l, c, h0, h1, h2, h3⟩ := h
  exact ⟨a, l, c, h0, (hb.block g hl).trans h1, h2.below hb, h3⟩
theorem CRdAt.apart {w w' : World} {g k : Nat} {L : List Int} (h : CRdAt w g L) (hg : w.grownBy w' (some k)) (hk : Head w k) (hne : g ≠ k) : CRdAt w' g L := by
  have hl := h.lt
  obtain ⟨a, l, c, h0, h1, h2, h3⟩ := h
  exact ⟨a, l, c, h0, (hg.block g hl (fun e => hne (by simpa using e))).trans h1, h2.head hg hk, h3⟩

set_option maxHeartbeats 800000 in
theorem c9new_any (a : Option Addr) (l c : Nat) (bs : List Int) (w : World) (h : Byts w a l c bs) (hlen : l ≤ 140737488355300) : Calls Try.prog 28 #[.slice a l c] w fun e w' => ∃ g, e = .returned (.pointer (some ⟨g, 0, none⟩)) ∧ w.heap.size ≤ g ∧ CRdAt w' g bs ∧ Below w.heap.size w w' := by
  have HL : Hid (bs.length = l ∧ l ≤ 140737488355300) := ⟨h.hlen, hlen⟩
  go_enter Try.func28, Try.ntmps28
  go_wp2_with fail
  refine (clone9_any _ _ _ _ _ h hlen).mono ?_
  rintro e w1 ⟨a1, l1, c1, rfl, ⟨k1, k2, -⟩, kb⟩
  have HK : Hid (CRdAt (w1.alloc (.cells #[.slice a1 l1 c1] 61)) w1.heap.size bs ∧ Below w.heap.size w (w1.alloc (.cells #[.slice a1 l1 c1] 61)) ∧ w.heap.size ≤ w1.heap.size) := ⟨⟨a1, l1, c1, by have := k1.hlen; have := HL.out; omega, heap_alloc_new _ _, k1.below ((Below.refl _ _).alloc (Nat.le_refl _) _), k2⟩, kb.alloc kb.size _, kb.size⟩
  clear k1 k2 kb h
  go_wp2
  go_ret
  exact ⟨_, rfl, HK.out.2.2, HK.out.1, HK.out.2.1⟩

set_option maxHeartbeats 400000 in
theorem c9rest_any (g : Nat) (a : Option Addr) (l c : Nat) (w : World) (hc : w.cell? ⟨g, 0, none⟩ = some (.slice a l c)) :
    Calls Try.prog 41 #[.pointer (some ⟨g, 0, none⟩)] w fun e w' => e = .returned (.slice a l c) ∧ w = w' := by
  go_enter Try.func41, Try.ntmps41
  go_wp2
  go_ret
  exact ⟨rfl, rfl⟩

set_option maxHeartbeats 400000 in
theorem c9left_any (g : Nat) (L : List Int) (w : World) (h : CRdAt w g L) :
    Calls Try.prog 37 #[.pointer (some ⟨g, 0, none⟩)] w fun e w' => e = .returned (.int .i64 (L.length : Int)) ∧ w = w' := by
  obtain ⟨a, l, c, h0, h1, h2, h3⟩ := h
  have hl := h2.hlen
  have hc : w.cell? ⟨g, 0, none⟩ = some (.slice a l c) := by rw [cell_of_row w g 0 _ _ _ h1]; rfl
  rw [hl]
  clear h1 h2 hl h3
  go_enter Try.func37, Try.ntmps37
  go_wp2_with fail
  refine (c9rest_any g a l c _ hc).mono ?_
  rintro e w1 ⟨rfl, rfl⟩
  go_wp2
  go_ret
  exact ⟨rfl, rfl⟩

theorem pow_128 (k : Nat) : (2 : Int) ^ (7 * k) = ((128 ^ k : Nat) : Int) := by
  rw [Int.pow_mul]
  simp
theorem or9 {N D k : Nat} (hN : N < 128 ^ k) (hN64 : N < 18446744073709551616) (h : D * 128 ^ k < 18446744073709551616) : bits .or .u64 (N : Int) ((D : Int) * 2 ^ (7 * k)) = ((N + D * 128 ^ k : Nat) : Int) := by
  have e : (D : Int) * 2 ^ (7 * k) = ((D * 128 ^ k : Nat) : Int) := by rw [pow_128, Int.natCast_mul]
  rw [or_low (Int.natCast_nonneg D) (by rw [e]; exact Int.ofNat_lt.2 h) (Int.natCast_nonneg N) (by rw [pow_128]; exact Int.ofNat_lt.2 hN) (by omega), e, Int.natCast_add]

set_option maxRecDepth 20000 in
set_option maxHeartbeats 3200000 in
theorem c9first_any (a : Option Addr) (l c : Nat) (L : List Int) (w : World) (h : Byts w a l c L) :
    Calls Try.prog 40 #[.slice a l c] w fun e w' => ∃ n k : Nat, e = .returned (.tuple #[.int .u64 n, .int .i64 k]) ∧ NextT L n k ∧ w = w' := by
  have hl := h.hlen
  have hm := h.hmax
  have hcp := h.hcap
  unfold maxLen at hm
  have HBy : Hid (Byts w a l c L) := h
  have HLl : Hid (L.length = l) := hl
  clear hl h
  go_enter Try.func40, Try.ntmps40
  go_wp2_with fail
  go_step3
  go_wp2_with fail
  go_step3
  go_wp2_with fail
  go_loopw [4, 9] (fun v4 v9 wr => ∃ k N : Nat, v4 = .int .u64 N ∧ v9 = .int .i64 k ∧ k ≤ 9 ∧ N < 18446744073709551616 ∧ Hid (k ≤ L.length ∧ Hi (L.take k) ∧ N = loV (L.take k)) ∧ w = wr) (fun _ v9 _ => 10 - (intOf v9).toNat)
  case atStart => exact ⟨0, 0, rfl, rfl, by omega, by omega, ⟨by omega, fun x hx => by simp at hx, by simp [loV]⟩, rfl⟩
  case round =>
    obtain ⟨k, N, rfl, rfl, hk, hN, HI, rfl⟩ := hrel
    obtain ⟨i1, i2, i3⟩ := HI.out
    have hLl := HLl.out
    by_cases hend : k < l
    · have hlt : (k : Int) < (l : Int) := by omega
      obtain ⟨b, off, rfl, hcell⟩ := HBy.out.cells (by omega)
      have hx := hcell k hend
      have hwd : 0 ≤ L.getD k 0 ∧ L.getD k 0 < 256 := HBy.out.digs.getD (by decide) k
      obtain ⟨X, hX⟩ := Int.eq_ofNat_of_zero_le hwd.1
      rw [hX] at hx hwd
      have hX256 : X < 256 := by omega
      have hsn := take_snoc9 (show k < L.length by omega)
      have hdc := drop_cons9 (show k < L.length by omega)
      rw [hX] at hsn hdc
      have hlen : (L.take k).length = k := by simp; omega
      clear hcell hwd
      have hk7 : IntKind.i64.wrap (7 * (k : Int)) = ((7 * k : Nat) : Int) := by simp [IntKind.wrap, IntKind.signed, IntKind.bits]; omega
      have hNl : N < 128 ^ k := by have := loV_lt i2; rw [hlen, ← i3] at this; exact this
      by_cases hX0 : X = 0
      · subst hX0
        by_cases hk0 : k = 0
        · subst hk0
          have hN0 : N = 0 := by rw [i3]; simp [loV]
          subst hN0
          have HF : Hid (NextT L 0 1) := .inl ⟨by omega, by omega, by
            have e : L.take (0 + 1) = [((0 : Nat) : Int)] := by rw [hsn]; simp
            rw [show (1 : Nat) = 0 + 1 from rfl, e]
            exact ⟨rfl, by omega⟩⟩
          have hx' : w.cell? ⟨b, off, none⟩ = some (.int .u8 0) := by simpa using hx
          clear i1 i2 i3 HI HBy hsn hdc hlen hX hk7 hNl hLl hx
          go_wp2
          rw [Exit.noGoto_ret]
          go_ret2
          exact ⟨0, 1, by rfl, HF.out, rfl⟩
        · have hki : (0 : Int) < (k : Int) := by omega
          have HF : Hid (NextT L 0 0) := .inr ⟨rfl, rfl, by
            rw [hdc]
            exact no_zero i2 (fun e => by rw [e] at hlen; simp at hlen; omega)⟩
          clear i1 i2 i3 HI HBy hsn hdc hlen hX hk7 hNl hLl hk0
          go_wp2
          rw [Exit.noGoto_ret]
          go_ret2
          exact ⟨0, 0, rfl, HF.out, rfl⟩
      · have hxi : ((X : Int) == 0) = false := by simp; omega
        by_cases hbad : k = 9 ∧ 1 < X
        · obtain ⟨rfl, hX1⟩ := hbad
          have hXi : (1 : Int) < (X : Int) := by omega
          have HF : Hid (NextT L 0 0) := .inr ⟨rfl, rfl, by
            by_cases h128 : 128 ≤ X
            · have e : L = L.take (9 + 1) ++ L.drop (9 + 1) := (List.take_append_drop _ L).symm
              rw [e]
              refine no_long ?_ (by simp; omega)
              rw [hsn]
              exact i2.snoc ⟨by omega, by omega⟩
            · rw [hdc]
              exact no_tenth i2 hlen (by omega)⟩
          clear i1 i2 i3 HI HBy hsn hdc hlen hX hNl hLl hX1
          go_wp2
          rw [Exit.noGoto_ret]
          go_ret2
          exact ⟨0, 0, rfl, HF.out, rfl⟩
        · obtain ⟨m1, m2⟩ := next_bd (D := X % 128) i2 hk (by omega) (by omega) (fun e => by omega)
          rw [← i3] at m2
          have hor := or9 hNl hN m1
          obtain ⟨M, hM⟩ : ∃ M : Nat, M = N + X % 128 * 128 ^ k := ⟨_, rfl⟩
          rw [← hM] at hor m2
          have hor2 : bits .or .u64 (N : Int) (IntKind.u64.wrap ((X : Int) % 128 * 2 ^ (7 * k))) = (M : Int) := by
            have e : (((X % 128 : Nat) : Int)) = (X : Int) % 128 := by simp
            rw [e] at hor
            rw [← hor]
            congr 1
            rw [pow_128, ← e, ← Int.natCast_mul, wrap64]
            exact Int.emod_eq_of_lt (Int.natCast_nonneg _) (Int.ofNat_lt.2 m1)
          clear hor
          have hgd : decide ((1 : Int) < (X : Int)) = false ∨ (decide ((1 : Int) < (X : Int)) = true ∧ ((k : Int) == 9) = false) := by
            by_cases e : 1 < X
            · right
              exact ⟨decide_eq_true (by omega), by simp; omega⟩
            · left
              exact decide_eq_false (by omega)
          by_cases hmo : X < 128
          · have hmi : (X : Int) < 128 := by omega
            have HF : Hid (NextT L M (k + 1)) := .inl ⟨m2, by omega, by
              rw [hsn, hM, i3, Nat.mod_eq_of_lt hmo]
              have := code_of (p := L.take k) (b := X) i2 hmo (fun _ => hX0)
              rw [hlen] at this
              exact this⟩
            clear i1 i2 i3 HI HBy hsn hdc hlen hX hNl hLl hX0 hbad hM m1 m2
            rcases hgd with g1 | ⟨g1, g2⟩
            all_goals
              go_wp2
              rw [Exit.noGoto_ret]
              go_ret2
              exact ⟨M, k + 1, by simp, HF.out, rfl⟩
          · have hmi : decide ((X : Int) < 128) = false := decide_eq_false (by omega)
            have hk9 : k < 9 := by omega
            have HS : Hid (k + 1 ≤ L.length ∧ Hi (L.take (k + 1)) ∧ M = loV (L.take (k + 1))) := by
              refine ⟨by omega, by rw [hsn]; exact i2.snoc ⟨by omega, by omega⟩, ?_⟩
              rw [hsn, loV_snoc, hlen, hM, i3]
              have e : ((X : Int) - 128).toNat = X % 128 := by omega
              rw [e]
            clear i1 i2 i3 HI HBy hsn hdc hlen hX hNl hLl hX0 hbad hM m1
            rcases hgd with g1 | ⟨g1, g2⟩
            all_goals
              go_wp2
              go_roundw
              case rel => exact ⟨k + 1, M, rfl, by simp, by omega, m2, HS, by first | exact rfl | trivial⟩
              case measure => simp [intOf]; omega
    · have hlt : decide ((k : Int) < (l : Int)) = false := decide_eq_false (by omega)
      have HF : Hid (NextT L 0 0) := .inr ⟨rfl, rfl, by
        have e : L.take k = L := List.take_of_length_le (by omega)
        rw [e] at i2
        exact no_end i2⟩
      clear i1 i2 i3 HI HBy
      go_wp2
      try rw [Exit.noGoto_ret]
      go_ret2
      exact ⟨0, 0, rfl, HF.out, rfl⟩
end Go.Proofs.Ytpoipobmkfphcaa
