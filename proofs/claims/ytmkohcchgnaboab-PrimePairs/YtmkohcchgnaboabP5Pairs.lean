/-
  The walk of stage 5's law of pairs, from the contracts of the program's own functions.
-/
import Derived.Test.YtmkohcchgnaboabP5Tapes
import Derived.Test.YtmkohcchgnaboabP5LawsC
import Derived.Test.YtmkohcchgnaboabRefPair
namespace Go.Proofs.Ytmkohcchgnaboab
open Go.RowKit

/-- The program draws a key from a tape. -/
def PairOk : Prop := ∀ (g : Nat) (L : List Int) (B t : Int) (w : World), TapeAt w g L → Calls Try.prog 9 #[.pointer (some ⟨g, 0, none⟩), .int .i64 B, .int .i64 t] w fun e w' => PairT TapeAt w g B t L e w'

theorem ResSearch.bits {B t : Int} {L R : List Int} {p : Nat} (h : ResSearch B t L p 0 R) : (8 ≤ B ∧ B ≤ 40) ∧ 2 ^ (B.toNat - 1) ≤ p ∧ p < 2 * 2 ^ (B.toNat - 1) := by
  unfold ResSearch at h
  split at h
  · cases h.2.1
  · rename_i hc
    have hb := top_bd (B := B.toNat) (j := B.toNat - 1) (by omega) (by omega)
    have h2 : 2 ^ (B.toNat - 1) % 2 = 0 := by
      rw [show B.toNat - 1 = (B.toNat - 2) + 1 by omega, Nat.pow_succ]; omega
    exact ⟨by omega, (h.told h2 hb.1 rfl).2⟩

theorem ResPair.key {B t : Int} {L R : List Int} {P Q : Nat} (h : ResPair B t L P Q 0 R) : KeyOk P Q ∧ (8 ≤ B ∧ B ≤ 40) ∧ P / 2 ^ (B.toNat - 1) = 1 ∧ Q / 2 ^ (B.toNat - 1) = 1 := by
  obtain ⟨p, e1, R1, h1, ⟨a, _, _, b, _⟩ | ⟨rfl, q, e2, R2, h2, ⟨a, _, _, b, _⟩ | ⟨rfl, hK, rfl, rfl, _, _⟩ | ⟨_, _, _, _, b, _⟩⟩⟩ := h
  · exact absurd b.symm a
  · exact absurd b.symm a
  · have k1 := h1.bits
    have k2 := h2.bits
    have hb := top_bd (B := B.toNat) (j := B.toNat - 1) (by omega) (by omega)
    refine ⟨hK, k1.1, ?_, ?_⟩
    · exact Nat.div_eq_of_lt_le (by omega) (by omega)
    · exact Nat.div_eq_of_lt_le (by omega) (by omega)
  · cases b

theorem ResPair.lt {B t : Int} {L R : List Int} {P Q : Nat} {e : Int} (h : ResPair B t L P Q e R) : P < 1099511627776 ∧ Q < 1099511627776 := by
  obtain ⟨p, e1, R1, h1, ⟨_, rfl, rfl, _, _⟩ | ⟨rfl, q, e2, R2, h2, ⟨_, rfl, rfl, _, _⟩ | ⟨rfl, hK, rfl, rfl, _, _⟩ | ⟨_, _, rfl, rfl, _, _⟩⟩⟩ := h
  · exact ⟨by decide, by decide⟩
  · exact ⟨by decide, by decide⟩
  · exact hK.2.1
  · exact ⟨by decide, by decide⟩

set_option maxRecDepth 20000 in
set_option maxHeartbeats 3200000 in
theorem pairs_walk (hS : PairOk) (hC : CheckOk) (a0 : Option Addr) (len0 cap0 : Nat) (bs : List Int) (x0 x1 : Int) (w : World) (H0 : Byts w a0 len0 cap0 bs) (hnil : a0 = none → cap0 = 0) :
    Calls Try.prog 4 #[.slice a0 len0 cap0, .int .i64 x0, .int .i64 x1] w fun e w' => e = .returned (.bool true) ∧ Below w.heap.size w w' := by
  go_enter Try.func4, Try.ntmps4
  go_wp2_with fail
  refine (tnew_any _ _ _ _ _ H0).mono ?_
  rintro e v1 ⟨hb1, ⟨hl, rfl⟩ | ⟨hl, g, rfl, hT, hg⟩⟩
  · go_wp2_with fail
    refine (rtnew_any _ _ _ _ _ (H0.below hb1) hnil).mono ?_
    rintro e v2 ⟨hb2, ⟨hl2, rfl⟩ | ⟨hl2, _⟩⟩
    · have hB := hb1.trans (hb2.mono hb1.size)
      clear H0 hb1 hb2
      go_wp2
      go_ret
      exact ⟨rfl, hB⟩
    · omega
  · go_wp2_with fail
    refine (rtnew_any _ _ _ _ _ (H0.below hb1) hnil).mono ?_
    rintro e v2 ⟨hb2, ⟨hl2, rfl⟩ | ⟨-, g', rfl, hT', hg'⟩⟩
    · omega
    have hB2 := hb1.trans (hb2.mono hb1.size)
    have hT2 := hT.below hb2
    have hne := hT2.other hT'
    have hgw : w.heap.size ≤ g' := Nat.le_trans hb1.size hg'
    clear hT H0 hb1 hb2
    go_wp2_with fail
    generalize min x1 300 = t
    refine (hS g bs x0 t _ hT2).mono ?_
    rintro e v3 ⟨P, Q, e1, R1, rfl, r1, hT3, hg3⟩
    have hT3' := hT'.apart hg3 hT2.head (fun e => hne e.symm)
    have hB3 := grown_new hB2 hg hg3
    have HR1 : Hid (ResPair x0 t bs P Q e1 R1) := r1
    have hlt := r1.lt
    have hVb := (Below.refl v3.heap.size v3).alloc (Nat.le_refl _) (.cells #[.int .u64 (P : Int), .int .u64 (Q : Int)] 24)
    have hkey : (v3.alloc (.cells #[.int .u64 (P : Int), .int .u64 (Q : Int)] 24)).heap[v3.heap.size]? = some (.cells #[.int .u64 (P : Int), .int .u64 (Q : Int)] 24) := heap_alloc_new _ _
    have hVz : (v3.alloc (.cells #[.int .u64 (P : Int), .int .u64 (Q : Int)] 24)).heap.size = v3.heap.size + 1 := by simp
    have U3 := hT3.below hVb
    have U3' := hT3'.below hVb
    have hgl := hT3'.lt
    have hB3' := hB3.trans (hVb.mono hB3.size)
    clear hT2 hT' hB2 hg3 r1 hT3 hT3' hVb hB3
    go_wp2_with fail
    generalize v3.alloc (.cells #[.int .u64 (P : Int), .int .u64 (Q : Int)] 24) = V3 at *
    generalize v3.heap.size = k1 at *
    refine (rpair_any g' bs x0 t _ U3').mono ?_
    rintro e v4 ⟨P', Q', e1', R1', rfl, r1', hT4', hg4⟩
    have hT4 := U3.apart hg4 U3'.head hne
    have hB4 := grown_new hB3' hgw hg4
    have hk4 := (hg4.block k1 (by omega) (by simp; omega)).trans hkey
    obtain ⟨rfl, rfl, rfl, rfl⟩ := HR1.out.unique r1'
    have hVb := (Below.refl v4.heap.size v4).alloc (Nat.le_refl _) (.cells #[.int .u64 (P : Int), .int .u64 (Q : Int)] 24)
    have hk4z : k1 < v4.heap.size := by have := hg4.size; omega
    have c0 := cell_of_row v4 k1 0 _ _ _ hk4
    have c1 := cell_of_row v4 k1 1 _ _ _ hk4
    simp at c0 c1
    have b0 : (v4.alloc (.cells #[.int .u64 (P : Int), .int .u64 (Q : Int)] 24)).cell? ⟨v4.heap.size, 0, none⟩ = some (.int .u64 (P : Int)) := by simp
    have b1 : (v4.alloc (.cells #[.int .u64 (P : Int), .int .u64 (Q : Int)] 24)).cell? ⟨v4.heap.size, 1, none⟩ = some (.int .u64 (Q : Int)) := by simp
    replace c0 := bkeep hVb c0 rfl
    replace c1 := bkeep hVb c1 rfl
    have U4 := hT4.below hVb
    have U4' := hT4'.below hVb
    have hB4' := hB4.trans (hVb.mono hB4.size)
    clear U3 U3' hB3' hg4 r1' hT4 hT4' hB4 hVb hk4 hkey
    go_wp2_with fail
    generalize v4.alloc (.cells #[.int .u64 (P : Int), .int .u64 (Q : Int)] 24) = V4 at *
    refine (left_any _ _ _ U4).mono ?_
    rintro e v5 ⟨rfl, rfl⟩
    go_wp2_with fail
    refine (rleft_any _ _ _ U4').mono ?_
    rintro e v6 ⟨rfl, hb6⟩
    have hB6 := hB4'.trans (hb6.mono hB4'.size)
    replace c0 := bkeep hb6 c0 rfl
    replace c1 := bkeep hb6 c1 rfl
    clear U4 U4' hB4' hb6 b0 b1
    by_cases he : e1 = 0
    · subst he
      obtain ⟨hK, hb8, hp, hq⟩ := HR1.out.key
      have HC1 : Hid (∀ wx : World, Calls Try.prog 5 #[.agg #[.int .u64 (P : Int), .int .u64 (Q : Int)]] wx fun e w' => e = .returned (.int .i64 0) ∧ Below wx.heap.size wx w') := fun wx => (hC P Q wx (by omega) (by omega)).mono (by
        rintro e w' ⟨h | h, hb⟩
        · exact ⟨h.2, hb⟩
        · exact absurd hK h.1)
      have up : ∀ Y : Nat, Y / 2 ^ (x0.toNat - 1) = 1 → ((Y : Int) / 2 ^ (x0.toNat - 1) == 1) = true := fun Y h => by
        have e : ((Y : Int) / 2 ^ (x0.toNat - 1)) = ((Y / 2 ^ (x0.toNat - 1) : Nat) : Int) := by rw [Int.natCast_ediv, Int.natCast_pow]; rfl
        rw [e, h]; rfl
      have hpI := up P hp
      have hqI := up Q hq
      clear hK hp hq hC HR1 up
      go_wp2_with fail
      refine (HC1.out _).mono ?_
      rintro e v7 ⟨rfl, hb7⟩
      have hB7 := hB6.trans (hb7.mono hB6.size)
      replace c0 := bkeep hb7 c0 rfl
      replace c1 := bkeep hb7 c1 rfl
      clear HC1 hB6 hb7
      go_wp2
      go_ret
      exact ⟨by simp, hB7⟩
    · have hed : (e1 != 0) = true := by simp [he]
      clear HR1
      go_wp2
      go_ret
      exact ⟨rfl, hB6⟩
end Go.Proofs.Ytmkohcchgnaboab
