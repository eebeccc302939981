/-
  What stage 10's laws ask of the program's functions.
-/
import Derived.Test.YtjokbikelklaiaaR10B
import Derived.Lib.SlBytesConst
namespace Go.Proofs.Ytjokbikelklaiaa
open Go.RowKit

def SumOk10 : Prop := ∀ (a : Option Addr) (la ca : Nat) (bs : List Int) (w : World), Byts w a la ca bs → (a = none → ca = 0) → la ≤ 140737488355300 → Calls Try.prog 60 #[.slice a la ca] w fun e w' => e = .returned (.int .u32 (sumC bs : Int)) ∧ Below w.heap.size w w'
def EncOk10 : Prop := ∀ (d : Bool) (s a : Int) (b : Option Addr) (lb cb : Nat) (body : List Int) (w : World), Byts w b lb cb body → (b = none → cb = 0) → (-9223372036854775808 ≤ s ∧ s < 9223372036854775808) → (-9223372036854775808 ≤ a ∧ a < 9223372036854775808) → Calls Try.prog 42 #[.agg #[.bool d, .int .i64 s, .int .i64 a, .slice b lb cb]] w fun e w' => EncT d s a body w e w'
def DecOk10 : Prop := ∀ (b : Option Addr) (lb cb : Nat) (L : List Int) (w : World), Byts w b lb cb L → (b = none → cb = 0) → lb ≤ 140737488355300 → Calls Try.prog 34 #[.slice b lb cb] w fun e w' => DecT L w e w'

theorem Byts.lit (w : World) (xs : List Int) (hx : Digs 256 xs) (n : Nat) (hn : xs.length = n) (hm : n ≤ 1000) (cs : Array Value) (hc : cs = (xs.map (Value.int .u8)).toArray) : Byts (w.alloc (.cells cs 5)) (some ⟨w.heap.size, 0, none⟩) n n xs := by
  subst hc
  refine BBlk.byts ⟨_, heap_alloc_new w _, ?_⟩ hx hn (by omega)
  rw [List.toList_toArray]
  exact List.take_of_length_le (by simp)
theorem Byts.litM (w : World) (xs : List Int) (hx : Digs 256 xs) (n : Nat) (hn : xs.length = n) (hm : n ≤ 1000) (cs : Array Value) (hc : cs = (xs.map (Value.int .u8)).toArray) (m : Nat × Nat) : Byts (w.alloc (.cells cs 5 m)) (some ⟨w.heap.size, 0, none⟩) n n xs := by
  subst hc
  refine ⟨hn, Nat.le_refl _, by unfold maxLen; omega, fun _ => ⟨w.heap.size, 0, rfl, fun i hi => ?_⟩, hx⟩
  rw [Nat.zero_add, cell_of_row _ w.heap.size i _ _ _ (heap_alloc_new w _)]
  simp [List.getD, show i < xs.length by omega]
theorem code_zero : IsCode [0] 0 := ⟨rfl, by decide⟩
/-- The least frame has eight bytes. -/
theorem enc_zero {ys : List Int} {err : Int} (h : ResEnc false 0 0 [] ys err) : ys.length = 8 := by
  rcases h with ⟨_, ⟨m, ⟨cs, ca, cb, k1, k2, k3, rfl⟩, rfl⟩, _⟩ | ⟨k, _, _⟩
  · rw [k1.bytes code_zero, k2.bytes code_zero, k3.bytes code_zero]
    rfl
  · cases k
theorem dec_nil {d : Bool} {s a : Int} {body : List Int} {err : Int} (h : ResDec [] d s a body err) : err = 14 := by
  rcases h with ⟨h1, h2, _⟩ | ⟨_, _, rfl⟩
  · have := (dec_first h2 h1).1
    simp at this
  · rfl
theorem enc_len {d : Bool} {s a : Int} {body ys : List Int} (h : IsEnc d s a body ys) (hr : rightFr d s a body.length = true) : 8 ≤ ys.length ∧ ys.length ≤ body.length + 35 := by
  refine ⟨(dec_first h hr).1, ?_⟩
  obtain ⟨m, h1, rfl⟩ := h
  have := (h1.len hr).1
  simp [be4]
  omega
end Go.Proofs.Ytjokbikelklaiaa
