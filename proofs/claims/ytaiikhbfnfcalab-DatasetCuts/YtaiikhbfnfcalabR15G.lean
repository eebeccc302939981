/-
  The document's Align, its first statements. Written by mk/r15align.py.
  The document's Align, more statements. Written by mk/r15align.py.
  The document's Align: a number is put in its place. Written by mk/r15align.py.
  The document's Align. Written by mk/r15align.py.
-/
import Derived.Test.YtaiikhbfnfcalabR15A
import Derived.BigQuiet
import Derived.Deep.RegionHeld3
import Derived.Deep.RegionLaw
namespace Go.Proofs.Ytaiikhbfnfcalab
open Go.RowKit

theorem mem_getDL {Ls : List (List Int)} {i : Nat} (hi : i < Ls.length) : Ls.getD i [] ∈ Ls := by simp [List.getD, List.getElem?_eq_getElem hi]
theorem mem_atL {Ls : List (List Int)} {L : List Int} (h : L ∈ Ls) : ∃ j, j < Ls.length ∧ Ls.getD j [] = L := by
  obtain ⟨j, hj, e⟩ := List.mem_iff_getElem.1 h
  exact ⟨j, hj, by simp [List.getD, List.getElem?_eq_getElem hj, e]⟩
end Go.Proofs.Ytaiikhbfnfcalab

namespace Go.Proofs.Ytaiikhbfnfcalab
open Go.RowKit

end Go.Proofs.Ytaiikhbfnfcalab

namespace Go.Proofs.Ytaiikhbfnfcalab
open Go.RowKit

theorem IOwn.lit1 (w : World) (x : Int) : IOwn (w.alloc (.cells #[.int .i64 x] 3)) w.heap.size (.slice (some ⟨w.heap.size, 0, none⟩) 1 1) [x] := ⟨rfl, .inr ⟨w.heap.size, 1, #[.int .i64 x], rfl, Nat.le_refl _, heap_alloc_new _ _, Nat.le_refl _, by unfold maxLen; omega, rfl, rfl⟩⟩
theorem IOwn.front {w : World} {base g m cap : Nat} {xs : List Int} (h : IOwn w base (.slice (some ⟨g, 0, none⟩) m cap) xs) {j : Nat} (hj : j ≤ m) : IOwn w base (.slice (some ⟨g, 0, none⟩) j cap) (xs.take j) := by
  obtain ⟨h1, h2⟩ := h
  rcases h2 with ⟨e, _⟩ | ⟨g', cap', cur, e, hb, hg, hnc, hcm, hcs, htk⟩
  · cases e
  · cases e
    have hl : (xs.take j).length = j := by simp; omega
    refine ⟨by simp, .inr ⟨g, cap, cur, by rw [hl], hb, hg, by rw [hl]; omega, hcm, hcs, ?_⟩⟩
    rw [hl, Nat.mul_one, List.map_take, ← htk, List.take_take]
    congr 1
    omega
theorem IOwn.back {w : World} {base g m cap : Nat} {xs : List Int} (h : IOwn w base (.slice (some ⟨g, 0, none⟩) m cap) xs) (hd : ∀ x, x ∈ xs → -9223372036854775808 ≤ x ∧ x < 9223372036854775808) {j : Nat} (hj : j ≤ m) : Lsts w (some ⟨g, j, none⟩) (m - j) (cap - j) (xs.drop j) := by
  obtain ⟨a, cp, e, hL, -⟩ := h.lsts hd
  cases e
  refine ⟨by simp, by have := hL.hcap; omega, by have := hL.hmax; omega, fun hp => ⟨g, j, rfl, fun i hi => ?_⟩, fun x hx => hd x (List.mem_of_mem_drop hx)⟩
  obtain ⟨b, off, e2, hc⟩ := hL.at (i := j + i) (by omega)
  cases e2
  rw [Nat.zero_add] at hc
  rw [hc]
  simp [List.getD, List.getElem?_drop]
theorem IOwn.len {w : World} {base : Nat} {a : Option Addr} {m cap : Nat} {xs : List Int} (h : IOwn w base (.slice a m cap) xs) : xs.length = m := by
  rcases h.2 with ⟨e, hn⟩ | ⟨g, cap, cur, e, _⟩
  · cases e; exact hn
  · cases e; rfl
theorem IOwn.kept {w w' : World} {base g : Nat} {v : Value} {xs : List Int} (h : IOwn w base v xs) (hg : w.grownBy w' (some g)) (hne : v.ownBlock ≠ some g) : IOwn w' base v xs := World.ownsRow.kept h hg (.inr hne)

end Go.Proofs.Ytaiikhbfnfcalab

namespace Go.Proofs.Ytaiikhbfnfcalab
open Go.RowKit

/-- What Align has come to: of the first i ids those that stand in all lists, rising. -/
structure AlI (Ls : List (List Int)) (i : Nat) (xs : List Int) : Prop where
  rise : xs.Pairwise (· < ·)
  mem : ∀ y, y ∈ xs ↔ y ∈ (Ls.getD 0 []).take i ∧ ∀ k, 1 ≤ k → k < Ls.length → y ∈ Ls.getD k []
  few : xs.length ≤ i
theorem AlI.start (Ls : List (List Int)) : AlI Ls 0 [] := ⟨List.Pairwise.nil, fun y => by simp, Nat.le_refl _⟩
theorem take_one {L : List Int} {i : Nat} (hi : i < L.length) : L.take (i + 1) = L.take i ++ [L.getD i 0] := by
  rw [List.take_add_one]
  simp [List.getD, hi]
theorem AlI.skip {Ls : List (List Int)} {i : Nat} {xs : List Int} (h : AlI Ls i xs) (hi : i < (Ls.getD 0 []).length) (hn : ¬ ∀ k, 1 ≤ k → k < Ls.length → (Ls.getD 0 []).getD i 0 ∈ Ls.getD k []) : AlI Ls (i + 1) xs := ⟨h.rise, fun y => by
  rw [take_one hi, h.mem y, List.mem_append]
  constructor
  · exact fun ⟨p, q⟩ => ⟨.inl p, q⟩
  · rintro ⟨p | p, q⟩
    · exact ⟨p, q⟩
    · simp at p
      subst p
      exact absurd q hn, Nat.le_succ_of_le h.few⟩
theorem insert_rise {xs : List Int} {x : Int} {j : Nat} (hr : xs.Pairwise (· < ·)) (hx : x ∉ xs) (hj : j ≤ xs.length) (h1 : ∀ t, t < j → xs.getD t 0 < x) (h2 : j = xs.length ∨ ¬ xs.getD j 0 < x) : (xs.take j ++ ([x] ++ xs.drop j)).Pairwise (· < ·) := by
  have hA : ∀ a, a ∈ xs.take j → a < x := fun a ha => by
    obtain ⟨t, ht, e⟩ := List.mem_iff_getElem.1 ha
    have ht' : t < j := by simp at ht; omega
    have := h1 t ht'
    rw [← e]
    simpa [List.getD, List.getElem?_eq_getElem (show t < xs.length by omega)] using this
  have hB : ∀ a, a ∈ xs.drop j → x < a := fun a ha => by
    rcases h2 with e | e
    · rw [e, List.drop_length] at ha
      cases ha
    · obtain ⟨t, ht, e2⟩ := List.mem_iff_getElem.1 ha
      have hl : j + t < xs.length := by simp at ht; omega
      have e3 : xs[j + t] = a := by rw [← e2]; simp
      have hjl : j < xs.length := by omega
      have hge : xs.getD j 0 ≤ a := by
        rw [show xs.getD j 0 = xs[j] by simp [List.getD, List.getElem?_eq_getElem hjl], ← e3]
        rcases Nat.eq_zero_or_pos t with z | z
        · subst z; exact Int.le_refl _
        · exact Int.le_of_lt ((List.pairwise_iff_getElem.1 hr) j (j + t) hjl hl (by omega))
      have hne : a ≠ x := fun q => hx (by rw [← q, ← e3]; exact List.getElem_mem hl)
      omega
  rw [List.pairwise_append]
  refine ⟨hr.sublist (List.take_sublist _ _), ?_, fun a ha b hb => ?_⟩
  · rw [List.singleton_append, List.pairwise_cons]
    exact ⟨hB, hr.sublist (List.drop_sublist _ _)⟩
  · have ha' := hA a ha
    rcases List.mem_append.1 hb with r | r
    · simp at r; omega
    · have := hB b r; omega
theorem take_getD {L : List Int} {i t : Nat} (ht : t < (L.take i).length) : L.getD t 0 = (L.take i)[t] := by
  have : t < L.length := by simp at ht; omega
  simp [List.getD, List.getElem?_eq_getElem this]
theorem AlI.more {Ls : List (List Int)} {i j : Nat} {xs : List Int} (h : AlI Ls i xs) (hi : i < (Ls.getD 0 []).length) (hok : IdsOk (Ls.getD 0 [])) (hall : ∀ k, 1 ≤ k → k < Ls.length → (Ls.getD 0 []).getD i 0 ∈ Ls.getD k []) (hj : j ≤ xs.length) (h1 : ∀ t, t < j → xs.getD t 0 < (Ls.getD 0 []).getD i 0) (h2 : j = xs.length ∨ ¬ xs.getD j 0 < (Ls.getD 0 []).getD i 0) : AlI Ls (i + 1) (xs.take j ++ ([(Ls.getD 0 []).getD i 0] ++ xs.drop j)) := by
  have hx : (Ls.getD 0 []).getD i 0 ∉ xs := fun q => by
    have hm := ((h.mem _).1 q).1
    obtain ⟨t, ht, e⟩ := List.mem_iff_getElem.1 hm
    have ht' : t < i := by simp at ht; omega
    have hp := (nodup_idx.1 hok.nod) i hi
    have hp2 := (nodup_idx.1 hok.nod) t (by omega)
    have e2 : (Ls.getD 0 []).getD t 0 = (Ls.getD 0 []).getD i 0 := (take_getD ht).trans e
    rw [e2, hp] at hp2
    omega
  refine ⟨insert_rise h.rise hx hj h1 h2, fun y => ?_, ?_⟩
  · have e : y ∈ xs.take j ++ ([(Ls.getD 0 []).getD i 0] ++ xs.drop j) ↔ y = (Ls.getD 0 []).getD i 0 ∨ y ∈ xs := by
      have hs : xs.take j ++ xs.drop j = xs := List.take_append_drop _ _
      constructor
      · intro q
        rcases List.mem_append.1 q with r | r
        · exact .inr (List.mem_of_mem_take r)
        · rcases List.mem_append.1 r with r | r
          · exact .inl (by simpa using r)
          · exact .inr (List.mem_of_mem_drop r)
      · rintro (r | r)
        · exact List.mem_append.2 (.inr (List.mem_append.2 (.inl (by simp [r]))))
        · rw [← hs] at r
          rcases List.mem_append.1 r with r | r
          · exact List.mem_append.2 (.inl r)
          · exact List.mem_append.2 (.inr (List.mem_append.2 (.inr r)))
    rw [e, take_one hi, h.mem y, List.mem_append]
    constructor
    · rintro (r | ⟨p, q⟩)
      · exact ⟨.inr (by simp [r]), by rw [r]; exact hall⟩
      · exact ⟨.inl p, q⟩
    · rintro ⟨p | p, q⟩
      · exact .inr ⟨p, q⟩
      · exact .inl (by simpa using p)
  · have := h.few
    simp
    omega
theorem AlI.whole {Ls : List (List Int)} {xs : List Int} (h : AlI Ls (Ls.getD 0 []).length xs) (hl : 0 < Ls.length) : IsAlign Ls xs := ⟨h.rise, fun y => by
  rw [h.mem y, List.take_length]
  constructor
  · rintro ⟨p, q⟩ L hL
    obtain ⟨j, hj, e⟩ := mem_atL hL
    rw [← e]
    rcases Nat.eq_zero_or_pos j with z | z
    · rw [z]; exact p
    · exact q j z hj
  · intro q
    exact ⟨q _ (mem_getDL hl), fun k _ hk => q _ (mem_getDL hk)⟩⟩

/-- What Align makes. -/
def AlignT15 (Ls : List (List Int)) (w : World) (e : Ending) (w' : World) : Prop := ∃ a l c xs err, e = .returned (.tuple #[.slice a l c, .int .i64 err]) ∧ Lsts w' a l c xs ∧ (∀ ad, a = some ad → w.heap.size ≤ ad.block) ∧ ResAlign Ls err xs ∧ Below w.heap.size w w'
end Go.Proofs.Ytaiikhbfnfcalab
