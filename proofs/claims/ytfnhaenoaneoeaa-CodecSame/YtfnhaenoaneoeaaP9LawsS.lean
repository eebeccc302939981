/-
  Stage 9's laws: the walk of CodecSame.
-/
import Derived.Test.YtfnhaenoaneoeaaP9Rd
import Derived.Test.YtfnhaenoaneoeaaC9Back
namespace Go.Proofs.Ytfnhaenoaneoeaa
open Go.RowKit

set_option maxRecDepth 20000 in
set_option maxHeartbeats 6400000 in
theorem same9_walk {At : World → Nat → List Int → Prop} (A : RdOk9 At) (HI : IntOk9) (HB : BytOk9) (x : Int) (a : Option Addr) (la ca : Nat) (bs : List Int) (w : World) (hx : -9223372036854775808 ≤ x ∧ x < 9223372036854775808) (H : Byts w a la ca bs) (hnil : a = none → ca = 0) (hlen : la ≤ 140737488351232) :
    Calls Try.prog 8 #[.int .i64 x, .slice a la ca] w fun e w' => e = .returned (.bool true) ∧ Below w.heap.size w w' := by
  have hcap := H.hcap
  have hmax := H.hmax
  have HL : Hid (bs.length = la) := H.hlen
  unfold maxLen at hmax
  have b1 := (Below.refl w.heap.size w).alloc (Nat.le_refl _) (.cells #[] 5)
  go_enter Try.func8, Try.ntmps8
  go_wp2_with fail
  refine (HI x _ hx).mono ?_
  rintro e v1 ⟨a1, l1, c1, cs, rfl, X, hcd, hn1, h1⟩
  have hc10 := code_10 hcd (zig_lt hx)
  have hXl := X.hlen
  have hXc := X.hcap
  have hXm := X.hmax
  unfold maxLen at hXm
  have HC : Hid (IsCode cs (zig x)) := hcd
  have own1 := own9 (BOwn.empty w) h1
  have hb1 := b1.trans (h1.mono b1.size)
  have hd := hcd.digs
  clear hcd h1 b1
  go_wp2_with (at_builtin; refine wpList_appBW _ rfl _ _ 23 rfl Try.underlying23 w.heap.size _ [] rfl own1 a1 l1 c1 cs rfl X hn1 ?c1 w ?c2 hb1 ?_)
  case c1 => simp; omega
  case c2 => exact hb1.size
  intro u1 w2 hown2 hb2 _
  have H2 := H.below hb2
  clear X own1 hb1
  go_wp2_with fail
  refine (HB a la ca bs _ H2 hnil (by omega)).mono ?_
  rintro e w3 ⟨a3, l3, c3, ys, rfl, X3, ⟨ks, hks, rfl⟩, hn3, h3⟩
  have hk10 := code_10 hks (by have := HL.out; omega)
  have hX3 := X3.hlen
  rw [List.length_append, HL.out] at hX3
  have hX3c := X3.hcap
  have hX3m := X3.hmax
  unfold maxLen at hX3m
  have HK : Hid (IsCode ks bs.length) := hks
  have hd3 := hd.app9 (hks.digs.app9 H.digs)
  have own3 := own9 hown2 h3
  have hb3 := hb2.trans (h3.mono hb2.size)
  clear hks hown2 h3 hb2 H2 hd
  go_wp2_with (at_builtin; refine wpList_appBW _ rfl _ _ 23 rfl Try.underlying23 w.heap.size _ cs rfl own3 a3 l3 c3 (ks ++ bs) rfl X3 hn3 ?c1 w ?c2 hb3 ?_)
  case c1 => omega
  case c2 => exact hb3.size
  intro u4 w4 hown4 hb4 _
  obtain ⟨a4, l4, c4, rfl, X4, -, hnn⟩ := hown4.fresh hd3
  have hl4 := X4.hlen
  rw [List.length_append, List.length_append, HL.out] at hl4
  have h4n : a4 = none → c4 = 0 := nil9 hnn
  have hX4c := X4.hcap
  have hX4m := X4.hmax
  unfold maxLen at hX4m
  have hl0 : ¬ l4 = 0 := fun e => HC.out.nonempty (List.eq_nil_of_length_eq_zero (by omega))
  have hl0i : ((l4 : Int) == 0) = false := by simp; omega
  clear own3 hb3 X3 hown4 hnn hd3
  go_wp2_with fail
  refine (A.new a4 l4 c4 (cs ++ (ks ++ bs)) _ X4 h4n (by omega)).mono ?_
  rintro e w5 ⟨g, rfl, hg, hA, h5⟩
  have hB5 := hb4.trans (h5.mono hb4.size)
  have hgw : w.heap.size ≤ g := Nat.le_trans hb4.size hg
  clear h5 hb4 X4
  by_cases hmin : x = -9223372036854775808
  · subst hmin
    clear hA
    go_wp2
    go_ret
    exact ⟨rfl, hB5⟩
  have hmini : (x == -9223372036854775808) = false := by simpa using hmin
  obtain ⟨m, hm⟩ : ∃ m : Int, m = if x < 0 then -x else x := ⟨_, rfl⟩
  have hmr : -9223372036854775808 ≤ m ∧ m < 9223372036854775808 := by rw [hm]; split <;> omega
  have HJ : Hid (∀ wx, At wx g (cs ++ (ks ++ bs)) → Calls Try.prog 18 #[.pointer (some ⟨g, 0, none⟩), .int .i64 m] wx fun e w' => e = .returned (.tuple #[.int .i64 x, .int .i64 0]) ∧ At w' g (ks ++ bs) ∧ wx.grownBy w' (some g)) := fun wx h => by
    refine (A.int g _ m _ h hmr).mono ?_
    rintro e w' ⟨y, ye, R, rfl, hr, hA', hg'⟩
    obtain ⟨rfl, rfl, rfl⟩ := hr.unique (back_int HC.out hx hm)
    exact ⟨rfl, hA', hg'⟩
  have fin : ∀ (w6 : World), At w6 g (ks ++ bs) → Below w.heap.size w w6 → Hid (Calls Try.prog 20 #[.pointer (some ⟨g, 0, none⟩), .int .i64 la] w6 fun e w' => ∃ ra rl rc, e = .returned (.tuple #[.slice ra rl rc, .int .i64 0]) ∧ At w' g [] ∧ Below w.heap.size w w' ∧ Byts w' ra rl rc bs ∧ Byts w' a la ca bs) := fun w6 h hb => by
    refine (A.byt g _ la _ h (by omega)).mono ?_
    rintro e w' ⟨ra, rl, rc, ys, ye, R, rfl, ⟨hy, -⟩, hr, hA', hg'⟩
    have hq := back_byt HK.out (by have := HL.out; omega)
    rw [HL.out] at hq
    obtain ⟨rfl, rfl, rfl⟩ := hr.unique hq
    have hb' : Below w.heap.size w w' := hb.grown hg' hb.size (fun q hq => by cases hq; exact hgw)
    exact ⟨ra, rl, rc, rfl, hA', hb', hy, H.below hb'⟩
  have FIN : Hid (∀ (w6 : World), At w6 g (ks ++ bs) → Below w.heap.size w w6 → Hid (Calls Try.prog 20 #[.pointer (some ⟨g, 0, none⟩), .int .i64 la] w6 fun e w' => ∃ ra rl rc, e = .returned (.tuple #[.slice ra rl rc, .int .i64 0]) ∧ At w' g [] ∧ Below w.heap.size w w' ∧ Byts w' ra rl rc bs ∧ Byts w' a la ca bs)) := fin
  clear fin H
  by_cases hneg : x < 0
  · rw [if_pos hneg] at hm
    subst hm
    go_wp2_with fail
    refine (HJ.out _ hA).mono ?_
    rintro e w6 ⟨rfl, hA6, hg6⟩
    have hB6 : Below w.heap.size w w6 := hB5.grown hg6 hB5.size (fun q hq => by cases hq; exact hgw)
    clear hA hB5 hg6 HJ
    go_wp2_with fail
    refine (FIN.out _ hA6 hB6).out.mono ?_
    rintro e w7 ⟨ra, rl, rc, rfl, hA7, hB7, hy, hz⟩
    have q1 := conv_any hy
    have q2 := conv_any hz
    clear hA6 hB6 FIN hy hz
    go_wp2_with fail
    refine (A.left g [] _ hA7).mono ?_
    rintro e w8 ⟨rfl, h8⟩
    have hB8 := hB7.trans (h8.mono hB7.size)
    clear hA7 hB7 h8 q1 q2
    go_wp2
    go_ret
    exact ⟨by simp, hB8⟩
  · rw [if_neg hneg] at hm
    subst hm
    have hnegi : decide (m < 0) = false := decide_eq_false hneg
    go_wp2_with fail
    refine (HJ.out _ hA).mono ?_
    rintro e w6 ⟨rfl, hA6, hg6⟩
    have hB6 : Below w.heap.size w w6 := hB5.grown hg6 hB5.size (fun q hq => by cases hq; exact hgw)
    clear hA hB5 hg6 HJ
    go_wp2_with fail
    refine (FIN.out _ hA6 hB6).out.mono ?_
    rintro e w7 ⟨ra, rl, rc, rfl, hA7, hB7, hy, hz⟩
    have q1 := conv_any hy
    have q2 := conv_any hz
    clear hA6 hB6 FIN hy hz
    go_wp2_with fail
    refine (A.left g [] _ hA7).mono ?_
    rintro e w8 ⟨rfl, h8⟩
    have hB8 := hB7.trans (h8.mono hB7.size)
    clear hA7 hB7 h8 q1 q2
    go_wp2
    go_ret
    exact ⟨by simp, hB8⟩
end Go.Proofs.Ytfnhaenoaneoeaa
