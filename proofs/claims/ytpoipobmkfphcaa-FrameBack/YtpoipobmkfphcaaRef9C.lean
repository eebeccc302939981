/-
  The document's reader: Number and Int.
-/
import Derived.Test.YtpoipobmkfphcaaRef9B
import Derived.Test.YtpoipobmkfphcaaC9Rel
namespace Go.Proofs.Ytpoipobmkfphcaa
open Go.RowKit

/-- The reader goes on. -/
theorem rrd_put {w wz : World} {g l c u k : Nat} {a : Option Addr} {F L : List Int} (hl : l ≤ 140737488355300) (hL : L = F.drop u) (hk : u + k ≤ l) (hF : Byts wz a l c F) (hn : a = none → c = 0)
    (hz : wz.heap[g]? = some (.cells #[.slice a l c, .int .i64 u] 51 (0, 0))) (hb : Below w.heap.size w wz) :
    wz.frozen? ⟨g, 1, none⟩ = false ∧ RRdAt (wz.setCell ⟨g, 1, none⟩ (.int .i64 ((u : Int) + (k : Int)))) g (L.drop k) ∧ w.grownBy (wz.setCell ⟨g, 1, none⟩ (.int .i64 ((u : Int) + (k : Int)))) (some g) := by
  have q := grown_set wz g 1 (.int .i64 ((u : Int) + (k : Int)))
  have hh : Head wz g := ⟨_, _, hz, fun j x => by match j with | 0 => simp | 1 => simp | j + 2 => simp⟩
  refine ⟨frozen_of_row wz g 1 _ _ hz, ⟨a, l, c, u + k, F, hk, hl, by rw [hL, List.drop_drop], ?_, hF.head q hh, hn⟩, ?_⟩
  · have := heap_setCell_same wz g 1 _ _ (.int .i64 ((u : Int) + (k : Int))) hz
    simpa using this
  · refine ⟨q.os.trans hb.os, q.tape.trans hb.tape, q.output.trans hb.output, Nat.le_trans hb.size q.size, fun j hj hne => ?_⟩
    rw [q.block j (by have := hb.size; omega) hne, hb.block j hj]

set_option maxRecDepth 20000 in
set_option maxHeartbeats 1600000 in
theorem r9rnum_any (g : Nat) (L : List Int) (most : Nat) (w : World) (h : RRdAt w g L) :
    Calls Try.prog 29 #[.pointer (some ⟨g, 0, none⟩), .int .u64 most] w fun e w' => NumT RRdAt w g L most e w' := by
  have HT : Hid (RRdAt w g L) := h
  go_enter Try.func29, Try.ntmps29
  go_wp2_with fail
  refine (r9next_any g L _ HT.out).mono ?_
  rintro e w1 ⟨n, k, rfl, hN, hb⟩
  have HN : Hid (NextT L n k) := hN
  have hA := HT.out.below hb
  by_cases hk0 : k = 0
  · subst hk0
    have HR : Hid (NumT RRdAt w g L most (.returned (.tuple #[.int .u64 0, .int .i64 13])) w1) := ⟨0, 13, L, rfl, ⟨n, 0, hN, .inl ⟨.inl rfl, rfl, rfl, rfl⟩⟩, hA, grown_of_below hb _⟩
    clear HN hN hA
    go_wp2
    go_ret2
    exact HR.out
  obtain ⟨n1, n2, -⟩ := hN.pos hk0
  have hki : ((k : Int) == 0) = false := by simp; omega
  by_cases hm : most < n
  · have HR : Hid (NumT RRdAt w g L most (.returned (.tuple #[.int .u64 0, .int .i64 13])) w1) := ⟨0, 13, L, rfl, ⟨n, k, hN, .inl ⟨.inr hm, rfl, rfl, rfl⟩⟩, hA, grown_of_below hb _⟩
    have hmi : (most : Int) < (n : Int) := by omega
    clear HN hN hA
    go_wp2
    go_ret2
    exact HR.out
  · have hmi : decide ((most : Int) < (n : Int)) = false := decide_eq_false (by omega)
    obtain ⟨a, l, c, u, F, hu, h0, hL, h1, h2, h3⟩ := hA
    have hl := h2.hlen
    have hLl : L.length + u = l := by rw [hL]; simp; omega
    obtain ⟨f1, f2, f3⟩ := rrd_put h0 hL (k := k) (by omega) h2 h3 h1 hb
    have hc1 : w1.cell? ⟨g, 1, none⟩ = some (.int .i64 u) := by rw [cell_of_row w1 g 1 _ _ _ h1]; rfl
    have HR : Hid (NumT RRdAt w g L most (.returned (.tuple #[.int .u64 n, .int .i64 0])) (w1.setCell ⟨g, 1, none⟩ (.int .i64 ((u : Int) + (k : Int))))) := ⟨n, 0, L.drop k, rfl, ⟨n, k, hN, .inr ⟨by omega, rfl, rfl, rfl⟩⟩, f2, f3⟩
    have hgl := (Array.getElem?_eq_some_iff.1 h1).1
    clear HN hN h1 h2 hL f2 f3 hl h
    go_wp2
    go_ret2
    exact HR.out

end Go.Proofs.Ytpoipobmkfphcaa
