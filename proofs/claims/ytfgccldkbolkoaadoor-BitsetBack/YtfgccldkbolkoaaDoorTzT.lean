/-
  The library's table of places of bits, and TrailingZeros64.
-/
import Derived.Test.YtfgccldkbolkoaaDoorNatB
import Derived.Shelf.Spec.TrailingZeros
namespace Go.Proofs.YtfgccldkbolkoaaDoor
open Go.RowKit Go.Shelf

def tz64_ren : Go.Shelf.Ren := ⟨fun | 29 => 17 | n => n, fun | 0 => 0 | 3 => 3 | 4 => 4 | 5 => 5 | 22 => 30 | 25 => 44 | 54 => 43 | n => n, fun | 1 => 0 | n => n⟩
theorem tz64_lays : Lays7.n29 Tryd.prog tz64_ren :=
  { mixed := by kernel_rfl, f29 := Tryd.func17.trans (by kernel_rfl),
    t0 := Tryd.underlying0, a0 := Tryd.isAgg0, z0 := Tryd.sizeOf0, v0 := Tryd.zeroValue0, i0 := by kernel_rfl,
    t3 := Tryd.underlying3, a3 := Tryd.isAgg3, z3 := Tryd.sizeOf3, v3 := Tryd.zeroValue3, i3 := by kernel_rfl,
    t4 := Tryd.underlying4, a4 := Tryd.isAgg4, z4 := Tryd.sizeOf4, v4 := Tryd.zeroValue4, i4 := by kernel_rfl,
    t5 := Tryd.underlying5, a5 := Tryd.isAgg5, z5 := Tryd.sizeOf5, v5 := Tryd.zeroValue5, i5 := by kernel_rfl,
    t22 := Tryd.underlying30, a22 := Tryd.isAgg30, z22 := Tryd.sizeOf30, v22 := Tryd.zeroValue30, i22 := by kernel_rfl,
    t25 := Tryd.underlying44, a25 := Tryd.isAgg44, z25 := Tryd.sizeOf44, v25 := Tryd.zeroValue44, i25 := by kernel_rfl,
    t54 := Tryd.underlying43, a54 := Tryd.isAgg43, z54 := Tryd.sizeOf43, g1 := by kernel_rfl }

/-- The library's table of places of bits lies in its variable. -/
def TzTab (w : World) : Prop := TabAt 0 Lib.deBruijn64tab w
theorem TzTab.below {w w' : World} (h : TzTab w) (hb : Below w.heap.size w w') : TzTab w' := fun j hj => by
  have := h j hj
  exact (hb.cell (p := ⟨0, j, none⟩) (World.block_lt_of_cell? w _ this)).trans this

theorem tz64_any (x : Nat) (hx : x < 18446744073709551616) (h0 : x ≠ 0) (w : World) (hT : TzTab w) :
    Calls Tryd.prog 17 #[.int .u64 (x : Int)] w fun e w' => (∃ d s : Nat, e = .returned (.int .i64 (s : Int)) ∧ x = d * 2 ^ s ∧ d % 2 = 1 ∧ s < 64) ∧ w' = w := by
  refine (Any7.bits_TrailingZeros64 tz64_lays x hx w (fun _ => hT)).mono ?_
  rintro e w' ⟨rfl, rfl⟩
  have e : Lib.ctz 64 x = Lib.ctzFrom 64 x := by simp [Lib.ctz, h0]
  obtain ⟨m, hm, hk⟩ := Lib.ctzFrom_spec 64 x (by omega) (by omega)
  rw [e]
  exact ⟨⟨2 * m + 1, Lib.ctzFrom 64 x, rfl, by rw [Nat.mul_comm]; exact hm, by omega, hk⟩, rfl⟩
end Go.Proofs.YtfgccldkbolkoaaDoor
