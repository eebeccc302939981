/-
  Bits and digits of a number's limbs; numbers in a ring's form; the contract of mont's digit.
  The contract of mont's firstPowers.
  The contract of mont's raised.
  Contracts of a ring's Exp, and of the document's Power and Exp.
-/
import Derived.Test.YtmkohcchgnaboabMontB
import Derived.Test.YtmkohcchgnaboabNatD
import Derived.Laws.EntriesVeiled
import Derived.BigRegion
namespace Go.Proofs.Ytmkohcchgnaboab
open Go.RowKit

theorem and_15 {x : Int} (h : 0 ≤ x ∧ x < 18446744073709551616) : bits .and .u64 x 15 = x % 16 := by
  obtain ⟨h0, h1⟩ := h
  go_bits2

/-- The limbs are v in the ring's form. -/
def MF (zs : List Int) (v : Int) (ls : List Int) : Prop := belowB ls zs = true ∧ val 18446744073709551616 ls % val 18446744073709551616 zs = (v * 18446744073709551616 ^ zs.length) % val 18446744073709551616 zs

/-- The value is a slice whose limbs are v in the ring's form. -/
def SV (w : World) (zs : List Int) (v : Int) (x : Value) : Prop := ∃ a n c ls, x = .slice a n c ∧ Nums w a n c ls ∧ MF zs v ls
theorem SV.below {w w' : World} {zs : List Int} {v : Int} {x : Value} (h : SV w zs v x) (hb : Below w.heap.size w w') : SV w' zs v x := by
  obtain ⟨a, n, c, ls, e, hn, hm⟩ := h
  exact ⟨a, n, c, ls, e, hn.below hb, hm⟩

theorem Nums.setCell {w : World} {a : Option Addr} {n c : Nat} {zs : List Int} (h : Nums w a n c zs) {p : Addr} {sa : Option Addr} {sn sc : Nat} (hp : w.cell? p = some (.slice sa sn sc)) (v : Value) : Nums (w.setCell p v) a n c zs := by
  refine ⟨h.hlen, h.hcap, h.hmax, fun h0 => ?_, h.word⟩
  obtain ⟨b, off, e, hc⟩ := h.cells h0
  refine ⟨b, off, e, fun i hi => ?_⟩
  rw [World.cell?_setCell_other]
  · exact hc i hi
  · intro e2
    have := hc i hi
    rw [← e2, hp] at this
    cases this

theorem SV.setCell {w : World} {zs : List Int} {v : Int} {x : Value} (h : SV w zs v x) {p : Addr} {sa : Option Addr} {sn sc : Nat} (hp : w.cell? p = some (.slice sa sn sc)) (y : Value) : SV (w.setCell p y) zs v x := by
  obtain ⟨a, n, c, ls, e, hn, hm⟩ := h
  exact ⟨a, n, c, ls, e, hn.setCell hp y, hm⟩

theorem SV.setRow {w : World} {zs : List Int} {v : Int} {x : Value} (h : SV w zs v x) {g : Nat} {cs : Array Value} {t : TypeId} {fr : Nat × Nat} (hg : w.heap[g]? = some (.cells cs t fr)) (hs : ∀ (j : Nat) (y : Value), cs[j]? = some y → ∃ sa sn sc, y = Value.slice sa sn sc) (ds : Array Value) : SV (w.setRow g ds) zs v x := by
  obtain ⟨a, n, c, ls, e, hn, hm⟩ := h
  refine ⟨a, n, c, ls, e, ⟨hn.hlen, hn.hcap, hn.hmax, fun h0 => ?_, hn.word⟩, hm⟩
  obtain ⟨b, off, e, hc⟩ := hn.cells h0
  refine ⟨b, off, e, fun i hi => ?_⟩
  rw [cell_setRow_other]
  · exact hc i hi
  · intro e2
    have h1 := hc i hi
    simp only at e2
    subst e2
    rw [cell_of_row w b (off + i) cs t fr hg] at h1
    obtain ⟨sa, sn, sc, e3⟩ := hs _ _ h1
    cases e3

theorem below_setRow {w w' : World} {B g : Nat} (h : Below B w w') (hg : B ≤ g) (cs : Array Value) : Below B w (w'.setRow g cs) :=
  h.trans ⟨rfl, rfl, rfl, by simp, fun k hk => setRow_other _ _ _ _ (by omega)⟩

end Go.Proofs.Ytmkohcchgnaboab

namespace Go.Proofs.Ytmkohcchgnaboab
open Go.RowKit

def arr16 (y : Value) : Array Value := #[y, .slice none 0 0, .slice none 0 0, .slice none 0 0, .slice none 0 0, .slice none 0 0, .slice none 0 0, .slice none 0 0, .slice none 0 0, .slice none 0 0, .slice none 0 0, .slice none 0 0, .slice none 0 0, .slice none 0 0, .slice none 0 0, .slice none 0 0]

end Go.Proofs.Ytmkohcchgnaboab

namespace Go.Proofs.Ytmkohcchgnaboab
open Go.RowKit

theorem pow_dig {E c i : Nat} (h : i < c) : E / 16 ^ (c - (i + 1)) = (E / 16 ^ (c - i)) * 16 + E / 16 ^ (c - 1 - i) % 16 := by
  have e1 : c - i = (c - 1 - i) + 1 := by omega
  have e2 : c - (i + 1) = c - 1 - i := by omega
  rw [e1, e2, Nat.pow_succ, ← Nat.div_div_eq_div_mul]
  omega

theorem pow_two_step (v : Int) (k t : Nat) : v ^ (k * 2 ^ (t + 1)) = v ^ (k * 2 ^ t) * v ^ (k * 2 ^ t) := by
  rw [← Int.pow_add]; congr 1
  rw [Nat.pow_succ, ← Nat.mul_assoc]; omega

theorem count_ok {bz : Int} {cnt : Nat} {E : Nat} (h : (cnt : Int) = (bz + 3) / 4) (h0 : 0 ≤ bz) (hE : E < 2 ^ bz.toNat) : E / 16 ^ cnt = 0 := by
  apply Nat.div_eq_of_lt
  have e : (16 : Nat) ^ cnt = 2 ^ (4 * cnt) := by rw [Nat.pow_mul]
  rw [e]
  exact Nat.lt_of_lt_of_le hE (Nat.pow_le_pow_right (by omega) (by omega))

end Go.Proofs.Ytmkohcchgnaboab

namespace Go.Proofs.Ytmkohcchgnaboab
open Go.RowKit

/-- What is told of a power. -/
def ResExp (ok : Bool) (zs : List Int) (v : Int) (E : Nat) (ls : List Int) (err : Int) : Prop := if ok = true then err = 0 ∧ Digs 18446744073709551616 ls ∧ belowB ls zs = true ∧ val 18446744073709551616 ls = v ^ E % val 18446744073709551616 zs else err = 1 ∧ ls = []

theorem ResExp.bad (zs : List Int) (v : Int) (E : Nat) : ResExp false zs v E [] 1 := by simp [ResExp]
theorem ResExp.ok {zs : List Int} {v : Int} {E : Nat} {ls : List Int} (h0 : Digs 18446744073709551616 ls) (h1 : belowB ls zs = true) (h2 : val 18446744073709551616 ls = v ^ E % val 18446744073709551616 zs) : ResExp true zs v E ls 0 := by simp only [ResExp, if_true]; exact ⟨trivial, h0, h1, h2⟩
theorem ResExp.unique {ok : Bool} {zs : List Int} {v : Int} {E : Nat} {ls ks : List Int} {e f : Int} (h : ResExp ok zs v E ls e) (h' : ResExp ok zs v E ks f) : ls = ks ∧ e = f := by
  unfold ResExp at h h'
  cases ok with
  | false => simp at h h'; exact ⟨h.2.trans h'.2.symm, h.1.trans h'.1.symm⟩
  | true =>
    rw [if_pos rfl] at h h'
    exact ⟨val_inj (by decide) h.2.1 h'.2.1 (right_top (below_parts h.2.2.1).1) (right_top (below_parts h'.2.2.1).1) (h.2.2.2.trans h'.2.2.2.symm), h.1.trans h'.1.symm⟩

/-- May the arguments of a power be? -/
def expB (xs es zs : List Int) : Bool := belowB xs zs && (rightB es && decide (es.length ≤ 8))

theorem mf_one {zs ls qs : List Int} {f : Int} (hR : RingOk zs f qs) (hd : Digs 18446744073709551616 zs) (h : Red zs (val 18446744073709551616 qs) ls) : MF zs 1 ls := by
  refine ⟨h.belowB hR.modOk hd, red_in (a := 1) hR.modOk (h.mod ?_)⟩
  rw [hR.sq, Int.emod_emod, Int.one_mul]

theorem mf_in {zs ls qs xs : List Int} {f : Int} (hR : RingOk zs f qs) (hd : Digs 18446744073709551616 zs) (h : Red zs (val 18446744073709551616 xs * val 18446744073709551616 qs) ls) : MF zs (val 18446744073709551616 xs) ls := by
  refine ⟨h.belowB hR.modOk hd, red_in hR.modOk (h.mod ?_)⟩
  rw [hR.sq, Int.mul_emod, Int.emod_emod, ← Int.mul_emod]

theorem mf_out {zs ls ps : List Int} {v : Int} (hm : ModOk zs) (hd : Digs 18446744073709551616 zs) (h : Red zs (val 18446744073709551616 ps) ls) (hp : MF zs v ps) : belowB ls zs = true ∧ val 18446744073709551616 ls = v % val 18446744073709551616 zs := by
  refine ⟨h.belowB hm hd, ?_⟩
  have e := h.2.2.2
  rw [hp.2, Int.mul_comm v, pow64] at e
  have e2 := pow_cancel hm.odd _ e
  rw [Int.emod_eq_of_lt (val_nonneg (by decide) h.1) h.2.2.1] at e2
  exact e2

theorem sq_fits {zs qs : List Int} {f : Int} (hR : RingOk zs f qs) : val 18446744073709551616 qs < val 18446744073709551616 zs * 18446744073709551616 ^ zs.length := by
  have h1 : val 18446744073709551616 qs < val 18446744073709551616 zs := by rw [hR.sq]; exact Int.emod_lt_of_pos _ (by have := hR.three; omega)
  have h2 := pow_pos' (B := 18446744073709551616) (by decide) zs.length
  have h3 : val 18446744073709551616 zs * 1 ≤ val 18446744073709551616 zs * 18446744073709551616 ^ zs.length := Int.mul_le_mul_of_nonneg_left (by omega) (by have := hR.three; omega)
  omega

theorem below_fits {zs ps qs : List Int} {f : Int} (hR : RingOk zs f qs) (h : belowB ps zs = true) : val 18446744073709551616 ps < val 18446744073709551616 zs * 18446744073709551616 ^ zs.length := by
  have h1 := (below_parts h).2
  have h2 := pow_pos' (B := 18446744073709551616) (by decide) zs.length
  have h3 : val 18446744073709551616 zs * 1 ≤ val 18446744073709551616 zs * 18446744073709551616 ^ zs.length := Int.mul_le_mul_of_nonneg_left (by omega) (by have := hR.three; omega)
  omega

end Go.Proofs.Ytmkohcchgnaboab
