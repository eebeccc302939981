/-
  The plain reckoning of the sums' law: sums hang on no brackets; what is added and subtracted is gone.
-/
import Derived.Test.YtennhoalgclhjacTwo
import Derived.Test.YtennhoalgclhjacSub
namespace Go.Proofs.Ytennhoalgclhjac
open Go.RowKit

theorem around_same {aas bs cs xs us vvs qs : List Int} (hx : Res2 aas bs (val 18446744073709551616 aas + val 18446744073709551616 bs) xs 0) (hu : Res2 xs cs (val 18446744073709551616 xs + val 18446744073709551616 cs) us 0)
    (hv : Res2 bs cs (val 18446744073709551616 bs + val 18446744073709551616 cs) vvs 0) (hq : Res2 aas vvs (val 18446744073709551616 aas + val 18446744073709551616 vvs) qs 0) : us = qs := by
  obtain ⟨-, -, -, -, -, x1⟩ := hx.ok
  obtain ⟨-, -, d1, t1, -, u1⟩ := hu.ok
  obtain ⟨-, -, -, -, -, v1⟩ := hv.ok
  obtain ⟨-, -, d2, t2, -, q1⟩ := hq.ok
  exact val_inj (by decide) d1 d2 t1 t2 (by omega)

theorem around_sub {aas bs xs : List Int} (hx : Res2 aas bs (val 18446744073709551616 aas + val 18446744073709551616 bs) xs 0) (ha : Digs 18446744073709551616 aas) : ResSub xs bs aas 0 := by
  obtain ⟨r1, r2, d, t, l, v⟩ := hx.ok
  have hr := right_mk l t
  have hn := val_nonneg (by decide) ha
  rw [ResSub, hr, r2, Bool.and_true, if_pos rfl, if_neg (by omega)]
  exact .inl ⟨rfl, ha, right_top r1, right_len r1, by omega⟩
end Go.Proofs.Ytennhoalgclhjac
