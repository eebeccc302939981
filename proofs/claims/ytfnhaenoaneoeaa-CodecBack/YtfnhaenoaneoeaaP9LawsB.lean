/-
  Stage 9's laws: the walk of CodecBack.
-/
import Derived.Test.YtfnhaenoaneoeaaP9Rd
import Derived.Test.YtfnhaenoaneoeaaC9Back
namespace Go.Proofs.Ytfnhaenoaneoeaa
open Go.RowKit

set_option maxRecDepth 20000 in
set_option maxHeartbeats 6400000 in
theorem back9_walk {At : World → Nat → List Int → Prop} (A : RdOk9 At) (HN : NumOk9) (n : Nat) (a : Option Addr) (la ca : Nat) (bs : List Int) (w : World) (hn : n < 18446744073709551616) (H : Byts w a la ca bs) (hnil : a = none → ca = 0) (hlen : la ≤ 140737488351232) :
    Calls Try.prog 7 #[.int .u64 n, .slice a la ca] w fun e w' => e = .returned (.bool true) ∧ Below w.heap.size w w' := by
  have hcap := H.hcap
  have hmax := H.hmax
  have HL : Hid (bs.length = la) := H.hlen
  unfold maxLen at hmax
  go_enter Try.func7, Try.ntmps7
  go_wp2_with fail
  refine (HN n _ hn).mono ?_
  rintro e v1 ⟨a1, l1, c1, cs, rfl, X, hcd, hn1, hB1⟩
  have hc10 := code_10 hcd (by omega)
  have hXl := X.hlen
  have hXc := X.hcap
  have hXm := X.hmax
  unfold maxLen at hXm
  have hl0 : ¬ l1 = 0 := fun e => hcd.nonempty (List.eq_nil_of_length_eq_zero (by omega))
  have hl0i : ((l1 : Int) == 0) = false := by simp; omega
  have HC : Hid (IsCode cs n) := hcd
  have H1 := H.below hB1
  have hd := (hcd.digs).app9 H.digs
  clear hcd H
  have b1 := (Below.refl v1.heap.size v1).alloc (Nat.le_refl _) (.cells #[] 5)
  go_wp2_with (at_builtin; refine wpList_appBW _ rfl _ _ 23 rfl Try.underlying23 v1.heap.size _ [] rfl (BOwn.empty v1) a1 l1 c1 cs rfl (X.below b1) hn1 ?c1 v1 ?c2 b1 ?_)
  case c1 => simp; omega
  case c2 => simp
  intro u1 w2 hown2 hb2 _
  have H2 := H1.below hb2
  clear X b1 H1
  go_wp2_with (at_builtin; refine wpList_appBW _ rfl _ _ 23 rfl Try.underlying23 v1.heap.size _ cs rfl hown2 a la ca bs rfl H2 hnil ?c1 v1 ?c2 hb2 ?_)
  case c1 => omega
  case c2 => exact hb2.size
  intro u2 w3 hown3 hb3 _
  obtain ⟨a3, l3, c3, rfl, X3, -, hnn⟩ := hown3.fresh hd
  have hl3 := X3.hlen
  rw [List.length_append, HL.out] at hl3
  have hB3 := hB1.trans (hb3.mono hB1.size)
  have h3n : a3 = none → c3 = 0 := nil9 hnn
  clear hown2 hb2 H2 hown3 hb3 hd hnn
  go_wp2_with fail
  refine (A.new a3 l3 c3 (cs ++ bs) _ X3 h3n (by omega)).mono ?_
  rintro e w4 ⟨g, rfl, hg, hA, h4⟩
  have hB4 := hB3.trans (h4.mono hB3.size)
  have hgw : w.heap.size ≤ g := Nat.le_trans hB3.size hg
  clear h4 hB3 X3 hl3
  go_wp2_with fail
  refine (A.num g (cs ++ bs) n _ hA hn).mono ?_
  rintro e w5 ⟨m, me, R, rfl, hr, hA5, hg5⟩
  obtain ⟨rfl, rfl, rfl⟩ := hr.unique (back_num HC.out hn)
  have hB5 : Below w.heap.size w w5 := hB4.grown hg5 hB4.size (fun q hq => by cases hq; exact hgw)
  clear hr hg5 hA hB4
  go_wp2_with fail
  refine (A.left g R _ hA5).mono ?_
  rintro e w6 ⟨rfl, h6⟩
  have hB6 := hB5.trans (h6.mono hB5.size)
  have hR := HL.out
  clear h6 hB5 hA5
  go_wp2
  go_ret
  exact ⟨by simp, hB6⟩
end Go.Proofs.Ytfnhaenoaneoeaa
