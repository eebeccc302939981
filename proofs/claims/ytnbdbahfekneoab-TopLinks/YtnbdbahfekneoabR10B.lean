/-
  Contracts of the document's Sum (frame).
  Contracts of the document's Right and Encode (frame). Written by mk/ref10b.py.
  Contracts of the document's Decode and Same (frame). Written by mk/ref10c.py.
  What stage 10's laws ask of the program's functions.
-/
import Derived.Test.YtnbdbahfekneoabF10A
import Derived.Test.YtnbdbahfekneoabC9A
import Derived.Test.YtnbdbahfekneoabC9C
import Derived.Test.YtnbdbahfekneoabModA
import Derived.Laws.NewBlocks
import Derived.Test.YtnbdbahfekneoabR9B
import Derived.BigQuiet
import Derived.Lib.SlBytesConst
namespace Go.Proofs.Ytnbdbahfekneoab
open Go.RowKit

theorem bits_step {q : Nat} (hq : q < 4294967296) (ho : q % 2 = 1) : bits .xor .u32 ((q : Int) / 2) 3988292384 = ((stepC q : Nat) : Int) := by
  have h := bits_xor32 (q / 2) 3988292384 (by omega) (by decide)
  rw [show ((q : Int) / 2) = ((q / 2 : Nat) : Int) by omega]
  unfold stepC
  rw [if_pos ho]
  exact h
theorem step_even {q : Nat} (ho : ¬ q % 2 = 1) : (q : Int) / 2 = ((stepC q : Nat) : Int) := by
  unfold stepC
  rw [if_neg ho]
  omega
theorem bits_byte {r : Nat} {b : Int} (hr : r < 4294967296) (hb : 0 ≤ b ∧ b < 256) : bits .xor .u32 (r : Int) b = ((r ^^^ b.toNat : Nat) : Int) := by
  have h := bits_xor32 r b.toNat hr (by omega)
  rw [show ((b.toNat : Nat) : Int) = b by omega] at h
  exact h
theorem bits_all {r : Nat} (hr : r < 4294967296) : bits .xor .u32 (r : Int) 4294967295 = ((r ^^^ 4294967295 : Nat) : Int) := bits_xor32 r 4294967295 hr (by decide)
theorem steps_on {q k : Nat} (hk : k < 8) : stepsC (8 - k) q = stepsC (8 - (k + 1)) (stepC q) := by
  rw [show 8 - k = (8 - (k + 1)) + 1 by omega]
  rfl
theorem drop_cons {bs : List Int} {i : Nat} (h : i < bs.length) : bs.drop i = bs.getD i 0 :: bs.drop (i + 1) := by
  rw [List.drop_eq_getElem_cons h]
  simp [List.getD, h]

end Go.Proofs.Ytnbdbahfekneoab

namespace Go.Proofs.Ytnbdbahfekneoab
open Go.RowKit

/-- What a call that tells a frame's bytes makes. -/
def EncT (d : Bool) (s a : Int) (body : List Int) (w : World) (e : Ending) (w' : World) : Prop := ∃ a' l' c' ys err, e = .returned (.tuple #[.slice a' l' c', .int .i64 err]) ∧ Byts w' a' l' c' ys ∧ ResEnc d s a body ys err ∧ ((a' = none → c' = 0) ∧ ∀ ad, a' = some ad → 0 < l' → w.heap.size ≤ ad.block ∧ IsB w' ad.block) ∧ Below w.heap.size w w'
theorem BOwn.lit1 (w : World) (x : Int) : BOwn (w.alloc (.cells #[.int .u8 x] 5)) w.heap.size (.slice (some ⟨w.heap.size, 0, none⟩) 1 1) [x] :=
  World.ownsRow_lit w #[.int .u8 x] 1 (Nat.le_refl _) (by decide) rfl
theorem Byts.lit4 (w : World) (x y z u : Int) (hx : 0 ≤ x ∧ x < 256) (hy : 0 ≤ y ∧ y < 256) (hz : 0 ≤ z ∧ z < 256) (hu : 0 ≤ u ∧ u < 256) : Byts (w.alloc (.cells #[.int .u8 x, .int .u8 y, .int .u8 z, .int .u8 u] 5)) (some ⟨w.heap.size, 0, none⟩) 4 4 [x, y, z, u] := by
  refine ⟨rfl, Nat.le_refl _, by unfold maxLen; omega, fun _ => ⟨w.heap.size, 0, rfl, fun i hi => ?_⟩, fun v hv => ?_⟩
  · have : i = 0 ∨ i = 1 ∨ i = 2 ∨ i = 3 := by omega
    rcases this with rfl | rfl | rfl | rfl <;> simp
  · simp at hv
    rcases hv with rfl | rfl | rfl | rfl <;> assumption

end Go.Proofs.Ytnbdbahfekneoab

namespace Go.Proofs.Ytnbdbahfekneoab
open Go.RowKit

/-- What a call that tells the frame that bytes are makes. -/
def DecTF (L : List Int) (w : World) (e : Ending) (w' : World) : Prop := ∃ d s a p l c body err, e = .returned (.tuple #[.agg #[.bool d, .int .i64 s, .int .i64 a, .slice p l c], .int .i64 err]) ∧ Byts w' p l c body ∧ ResDecF L d s a body err ∧ ((p = none → c = 0) ∧ ∀ ad, p = some ad → 0 < l → w.heap.size ≤ ad.block ∧ IsB w' ad.block) ∧ Below w.heap.size w w'

theorem Byts.take10 {w : World} {a : Option Addr} {l c k : Nat} {bs : List Int} (h : Byts w a l c bs) (hk : k ≤ l) : Byts w a k c (bs.take k) := by
  refine ⟨by have := h.hlen; simp; omega, by have := h.hcap; omega, h.hmax, fun hp => ?_, fun x hx => h.word x (List.mem_of_mem_take hx)⟩
  obtain ⟨b, off, e, hc⟩ := h.cells (by omega)
  refine ⟨b, off, e, fun i hi => ?_⟩
  rw [hc i (by omega)]
  have := h.hlen
  simp [List.getD, hi]

end Go.Proofs.Ytnbdbahfekneoab

namespace Go.Proofs.Ytnbdbahfekneoab
open Go.RowKit

def SumOk10 : Prop := ∀ (a : Option Addr) (la ca : Nat) (bs : List Int) (w : World), Byts w a la ca bs → (a = none → ca = 0) → la ≤ 140737488355300 → Calls Try.prog 62 #[.slice a la ca] w fun e w' => e = .returned (.int .u32 (sumC bs : Int)) ∧ Below w.heap.size w w'
def EncOk10 : Prop := ∀ (d : Bool) (s a : Int) (b : Option Addr) (lb cb : Nat) (body : List Int) (w : World), Byts w b lb cb body → (b = none → cb = 0) → (-9223372036854775808 ≤ s ∧ s < 9223372036854775808) → (-9223372036854775808 ≤ a ∧ a < 9223372036854775808) → Calls Try.prog 43 #[.agg #[.bool d, .int .i64 s, .int .i64 a, .slice b lb cb]] w fun e w' => EncT d s a body w e w'
def DecOk10 : Prop := ∀ (b : Option Addr) (lb cb : Nat) (L : List Int) (w : World), Byts w b lb cb L → (b = none → cb = 0) → lb ≤ 140737488355300 → Calls Try.prog 24 #[.slice b lb cb] w fun e w' => DecTF L w e w'

theorem Byts.lit (w : World) (xs : List Int) (hx : Digs 256 xs) (n : Nat) (hn : xs.length = n) (hm : n ≤ 1000) (cs : Array Value) (hc : cs = (xs.map (Value.int .u8)).toArray) : Byts (w.alloc (.cells cs 5)) (some ⟨w.heap.size, 0, none⟩) n n xs := by
  subst hc
  refine BBlk.byts ⟨_, heap_alloc_new w _, ?_⟩ hx hn (by omega)
  rw [List.toList_toArray]
  exact List.take_of_length_le (by simp)
theorem Byts.litM (w : World) (xs : List Int) (hx : Digs 256 xs) (n : Nat) (hn : xs.length = n) (hm : n ≤ 1000) (cs : Array Value) (hc : cs = (xs.map (Value.int .u8)).toArray) (m : Nat × Nat) : Byts (w.alloc (.cells cs 5 m)) (some ⟨w.heap.size, 0, none⟩) n n xs := by
  subst hc
  refine ⟨hn, Nat.le_refl _, by unfold maxLen; omega, fun _ => ⟨w.heap.size, 0, rfl, fun i hi => ?_⟩, hx⟩
  rw [Nat.zero_add, cell_of_row _ w.heap.size i _ _ _ (heap_alloc_new w _)]
  simp [List.getD, show i < xs.length by omega]
theorem code_zero : IsCode [0] 0 := ⟨rfl, by decide⟩
/-- The least frame has eight bytes. -/
theorem enc_zero {ys : List Int} {err : Int} (h : ResEnc false 0 0 [] ys err) : ys.length = 8 := by
  rcases h with ⟨_, ⟨m, ⟨cs, ca, cb, k1, k2, k3, rfl⟩, rfl⟩, _⟩ | ⟨k, _, _⟩
  · rw [k1.bytes code_zero, k2.bytes code_zero, k3.bytes code_zero]
    rfl
  · cases k
theorem dec_nil {d : Bool} {s a : Int} {body : List Int} {err : Int} (h : ResDecF [] d s a body err) : err = 14 := by
  rcases h with ⟨h1, h2, _⟩ | ⟨_, _, rfl⟩
  · have := (dec_first h2 h1).1
    simp at this
  · rfl
theorem enc_len {d : Bool} {s a : Int} {body ys : List Int} (h : IsEnc d s a body ys) (hr : rightFr d s a body.length = true) : 8 ≤ ys.length ∧ ys.length ≤ body.length + 35 := by
  refine ⟨(dec_first h hr).1, ?_⟩
  obtain ⟨m, h1, rfl⟩ := h
  have := (h1.len hr).1
  simp [be4]
  omega
end Go.Proofs.Ytnbdbahfekneoab
