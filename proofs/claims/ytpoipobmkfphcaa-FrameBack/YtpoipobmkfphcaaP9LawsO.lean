/-
  What stage 9's laws ask of the program's functions that make codes.
-/
import Derived.Test.YtpoipobmkfphcaaRef9A
import Derived.Test.YtpoipobmkfphcaaBytB
namespace Go.Proofs.Ytpoipobmkfphcaa
open Go.RowKit

/-- A call makes bytes that are as P tells. -/
def CodeR (P : List Int → Prop) (w : World) (e : Ending) (w' : World) : Prop := ∃ a l c bs, e = .returned (.slice a l c) ∧ Byts w' a l c bs ∧ P bs ∧ (a = none → c = 0) ∧ Below w.heap.size w w'
/-- The code of bytes. -/
def IsByt (bs ys : List Int) : Prop := ∃ c, IsCode c bs.length ∧ ys = c ++ bs
theorem IsByt.unique {bs ys ys' : List Int} (h : IsByt bs ys) (h' : IsByt bs ys') : ys = ys' := by
  obtain ⟨c, h1, rfl⟩ := h
  obtain ⟨c', h2, rfl⟩ := h'
  rw [h1.bytes h2]

def NumOk9 : Prop := ∀ (n : Nat) (w : World), n < 18446744073709551616 → Calls Try.prog 21 #[.int .u64 n] w fun e w' => CodeR (fun bs => IsCode bs n) w e w'
def BytOk9 : Prop := ∀ (a : Option Addr) (la ca : Nat) (bs : List Int) (w : World), Byts w a la ca bs → (a = none → ca = 0) → la ≤ 140737488355300 → Calls Try.prog 22 #[.slice a la ca] w fun e w' => CodeR (IsByt bs) w e w'

theorem bown_nil {w : World} {base : Nat} {v : Value} {zs : List Int} (h : BOwn w base v zs) (hd : Digs 256 zs) : ∃ a n cap, v = .slice a n cap ∧ Byts w a n cap zs := by
  obtain ⟨a, n, c, e, hB, -⟩ := h.fresh hd
  exact ⟨a, n, c, e, hB⟩
theorem Byts.drew9 {w : World} {a : Option Addr} {l c : Nat} {L : List Int} (h : Byts w a l c L) : Byts w.drew a l c L := ⟨h.hlen, h.hcap, h.hmax, h.cells, h.word⟩
theorem Digs.app9 {B : Int} {x y : List Int} (h : Digs B x) (k : Digs B y) : Digs B (x ++ y) := fun z hz => by
  rcases List.mem_append.1 hz with c | c
  · exact h z c
  · exact k z c
theorem i64_of_wf9 {x : Int} (h : (Lit.int .i64 x).wf = true) : -9223372036854775808 ≤ x ∧ x < 9223372036854775808 := by
  simp [Lit.wf, IntKind.min, IntKind.max, IntKind.signed, IntKind.bits] at h
  exact ⟨by omega, by omega⟩
theorem u64_of_wf9 {x : Int} (h : (Lit.int .u64 x).wf = true) : ∃ n : Nat, x = (n : Int) ∧ n < 18446744073709551616 := by
  simp [Lit.wf, IntKind.min, IntKind.max, IntKind.signed, IntKind.bits] at h
  exact ⟨x.toNat, by omega, by omega⟩
theorem row_nil9 {k : IntKind} {w : World} {a : Option Addr} {len cap : Nat} {zs : List Int} (h : IsRow k w a len cap zs) : a = none → cap = 0 := by
  rintro rfl
  rcases h with ⟨_, _, h, _⟩ | ⟨x, e, _⟩
  · exact h
  · cases e
end Go.Proofs.Ytpoipobmkfphcaa
