/-
  Contracts of the document's Rest and Gcd.
-/
import Derived.Test.YtfeapegdaffckaaEucA
import Derived.Test.YtfeapegdaffckaaRefB
import Derived.Deep.LoopGhost
namespace Go.Proofs.Ytfeapegdaffckaa
open Go.RowKit

theorem refRest_any (a b : Option Addr) (la ca lb cb : Nat) (zs ys : List Int) (w : World) (h : Nums w a la ca zs) (h' : Nums w b lb cb ys) :
    Calls Try.prog 63 #[.slice a la ca, .slice b lb cb] w fun e w' => ∃ ra rn rc rs qs err, e = .returned (.slice ra rn rc) ∧ Nums w' ra rn rc rs ∧ ResDiv zs ys qs rs err ∧ Below w.heap.size w w' := by
  go_enter Try.func63, Try.ntmps63
  go_wp2_with fail
  refine (refDiv_any _ _ _ _ _ _ _ _ _ h h').mono ?_
  rintro e w1 ⟨qa, qn, qc, qs, ra, rn, rc, rs, err, rfl, hQ, hR, hD, hb⟩
  have HD : Hid (ResDiv zs ys qs rs err) := hD
  clear hD
  go_wp2_with fail
  go_ret
  exact ⟨_, _, _, _, _, _, rfl, hR, HD.out, hb⟩

set_option maxHeartbeats 1000000 in
theorem refGcd_all (a b : Option Addr) (la ca lb cb : Nat) (zs ys : List Int) (w : World) (h : Nums w a la ca zs) (h' : Nums w b lb cb ys) :
    Calls Try.prog 34 #[.slice a la ca, .slice b lb cb] w fun e w' => ∃ a' n' c' ls err, e = .returned (.tuple #[.slice a' n' c', .int .i64 err]) ∧ Nums w' a' n' c' ls ∧ ResGcd zs ys ls err ∧ Below w.heap.size w w' := by
  cases hr : rightB zs with
  | false =>
    go_enter Try.func34, Try.ntmps34
    go_wp2_with fail
    refine (refRight_any _ _ _ _ _ h).mono ?_
    rintro e w' ⟨rfl, rfl⟩
    rw [hr]
    go_wp2_with fail
    refine (refRight_any _ _ _ _ _ h').mono ?_
    rintro e w' ⟨rfl, rfl⟩
    go_wp2_with fail
    go_ret2
    exact ⟨none, 0, 0, [], 1, rfl, Nums.nil _, by simp [ResGcd, hr], Below.refl _ _⟩
  | true =>
  cases hr' : rightB ys with
  | false =>
    go_enter Try.func34, Try.ntmps34
    go_wp2_with fail
    refine (refRight_any _ _ _ _ _ h).mono ?_
    rintro e w' ⟨rfl, rfl⟩
    rw [hr]
    go_wp2_with fail
    refine (refRight_any _ _ _ _ _ h').mono ?_
    rintro e w' ⟨rfl, rfl⟩
    rw [hr']
    go_wp2_with fail
    go_ret2
    exact ⟨none, 0, 0, [], 1, rfl, Nums.nil _, by simp [ResGcd, hr'], Below.refl _ _⟩
  | true =>
    have hd := h.digs
    have hd' := h'.digs
    have hla : la ≤ 64 := by have := right_len hr; have := h.hlen; omega
    have hlb : lb ≤ 64 := by have := right_len hr'; have := h'.hlen; omega
    go_enter Try.func34, Try.ntmps34
    go_wp2_with fail
    refine (refRight_any _ _ _ _ _ h).mono ?_
    rintro e w' ⟨rfl, rfl⟩
    rw [hr]
    go_wp2_with fail
    refine (refRight_any _ _ _ _ _ h').mono ?_
    rintro e w ⟨rfl, rfl⟩
    rw [hr']
    have hown := Own.empty w
    have hb0 := (Below.refl w.heap.size w).alloc (Nat.le_refl _) (.cells #[] 42)
    have h1 := h.below hb0
    go_wp2_with (at_builtin; refine wpList_appM _ rfl _ _ 23 rfl Try.underlying23 w.heap.size _ [] rfl hown a la ca zs rfl h1 ?c1 w ?c2 hb0 ?c3)
    case c1 => simp; omega
    case c2 => simp
    case c3 =>
      intro v' w2 hown1 hb1
      obtain ⟨a1, n1, cap1, rfl, hn1, -⟩ := hown1.fresh hd
      have hown2 := Own.empty w2
      have hb2 := (Below.refl w2.heap.size w2).alloc (Nat.le_refl _) (.cells #[] 42)
      have h2 := (h'.below hb1).below hb2
      clear hown1 hown h1 hb0
      go_wp2_with (at_builtin; refine wpList_appM _ rfl _ _ 23 rfl Try.underlying23 w2.heap.size _ [] rfl hown2 b lb cb ys rfl h2 ?d1 w2 ?d2 hb2 ?d3)
      case d1 => simp; omega
      case d2 => simp
      case d3 =>
        intro v'' w3 hown3 hb3
        obtain ⟨b1, m1, bcap1, rfl, hm1, -⟩ := hown3.fresh hd'
        have X0 := hn1.below hb3
        have hB3 := hb1.trans (hb3.mono hb1.size)
        obtain ⟨G, hG⟩ : ∃ G, G = gz (val 18446744073709551616 zs) (val 18446744073709551616 ys) := ⟨_, rfl⟩
        have HG : Hid (G = gz (val 18446744073709551616 zs) (val 18446744073709551616 ys)) := hG
        clear hG hown2 hown3 h2 hb2 hb1 hb3 hn1
        go_wp2_with fail
        go_loopg [8, 9, 10] ((val 18446744073709551616 ys).toNat + 1) (fun k xv yv rv wr => ∃ xa xn xc xs ya yn yc us, xv = .slice xa xn xc ∧ yv = .slice ya yn yc ∧ (Nums wr xa xn xc xs ∧ Nums wr ya yn yc us) ∧ (rightB xs = true ∧ rightB us = true) ∧ gz (val 18446744073709551616 xs) (val 18446744073709551616 us) = G ∧ (val 18446744073709551616 us).toNat < k ∧ Below w.heap.size w wr)
        case atStart => exact ⟨a1, n1, cap1, zs, b1, m1, bcap1, ys, rfl, rfl, ⟨X0, hm1⟩, ⟨hr, hr'⟩, HG.out.symm, by omega, hB3⟩
        case round =>
          clear X0 hm1 hB3
          obtain ⟨xa, xn, xc, xs, ya, yn, yc, us, rfl, rfl, ⟨hx, hy⟩, ⟨rx, ry⟩, hg, hk, hbr⟩ := hrel
          have nx := val_nonneg (B := 18446744073709551616) (by decide) hx.digs
          have ny := val_nonneg (B := 18446744073709551616) (by decide) hy.digs
          have hyl := hy.hlen
          have hym := hy.hmax
          have hyc := hy.hcap
          unfold maxLen at hym
          by_cases h0 : yn = 0
          · have e : us = [] := List.eq_nil_of_length_eq_zero (by omega)
            subst e
            subst h0
            rw [val_nil, gz_zero nx] at hg
            have HV : Hid (val 18446744073709551616 xs = G) := hg
            have hdx := hx.digs
            clear hg hyl hk
            go_wp2_with fail
            go_ret2
            refine ⟨_, _, _, xs, _, rfl, hx, ?_, hbr⟩
            simp only [ResGcd, hr, hr', Bool.and_self, if_true]
            exact ⟨trivial, hdx, rx, HV.out.trans HG.out⟩
          · have hp0 : (0 : Int) < (yn : Int) := by omega
            have hu0 : us.length ≠ 0 := by omega
            have HU : Hid (us.length ≠ 0 ∧ gz (val 18446744073709551616 xs) (val 18446744073709551616 us) = G ∧ (val 18446744073709551616 us).toNat < gk) := ⟨hu0, hg, hk⟩
            clear hyl hu0 hg hk
            go_wp2_with fail
            refine (refRest_any _ _ _ _ _ _ _ _ _ hx hy).mono ?_
            rintro e w4 ⟨ra, rn, rc, rs, qs, err, rfl, hR, hD, hb4⟩
            obtain ⟨-, ⟨-, rr⟩, -, -, vr⟩ := ResDiv.parts rx ry HU.out.1 hD
            have hp := right_pos hy.digs ry HU.out.1
            have hlt := Int.emod_lt_of_pos (val 18446744073709551616 xs) hp
            have hnn := Int.emod_nonneg (val 18446744073709551616 xs) (show val 18446744073709551616 us ≠ 0 by omega)
            have HV : Hid (gz (val 18446744073709551616 us) (val 18446744073709551616 rs) = G ∧ (val 18446744073709551616 rs).toNat + 1 < gk) := by
              refine ⟨?_, ?_⟩
              · rw [vr, gz_step nx ny, HU.out.2.1]
              · have := HU.out.2.2; rw [vr]; omega
            have Y4 := hy.below hb4
            have hB4 := hbr.trans (hb4.mono hbr.size)
            clear hD vr hlt hnn hp hb4 hbr hx hy nx ny HU
            go_wp2_with fail
            go_roundg ((val 18446744073709551616 rs).toNat + 1)
            case measure => exact HV.out.2
            case rel => exact ⟨ya, yn, yc, us, ra, rn, rc, rs, rfl, rfl, ⟨Y4, hR⟩, ⟨ry, rr⟩, HV.out.1, by omega, hB4⟩
theorem refGcd_any (a b : Option Addr) (la ca lb cb : Nat) (zs ys : List Int) (w : World) (h : Nums w a la ca zs) (h' : Nums w b lb cb ys) (_ : a = none → ca = 0) (_ : b = none → cb = 0) :
    Calls Try.prog 34 #[.slice a la ca, .slice b lb cb] w fun e w' => ∃ a' n' c' ls err, e = .returned (.tuple #[.slice a' n' c', .int .i64 err]) ∧ Nums w' a' n' c' ls ∧ ResGcd zs ys ls err ∧ Below w.heap.size w w' := refGcd_all a b la ca lb cb zs ys w h h'
end Go.Proofs.Ytfeapegdaffckaa
