/-
  Contracts of package paillier's sure, square, restOf, product, power, bare, cover and timesOf.
-/
import Derived.Test.YtambpcgdaogojabGreatP6Ans
import Derived.Test.YtambpcgdaogojabGreatNatC
import Derived.Test.YtambpcgdaogojabGreatNatB
import Derived.Test.YtambpcgdaogojabGreatNatE
import Derived.Test.YtambpcgdaogojabGreatMontB
import Derived.Test.YtambpcgdaogojabGreatMontC
import Derived.Laws.EntriesVeiled
namespace Go.Proofs.YtambpcgdaogojabGreat
open Go.RowKit

theorem isN_one6 : IsN (ofZ 1) 1 := ⟨fun y hy => by simp [ofZ] at hy; subst hy; decide, by decide, by decide⟩
/-- What a call that tells a number makes. -/
def NumT (v : Nat) (w : World) (e : Ending) (w' : World) : Prop := ∃ a l c ls, e = .returned (.slice a l c) ∧ Nums w' a l c ls ∧ IsN ls v ∧ Below w.heap.size w w'
/-- What a reckoning makes. -/
def ReckT (R : List Int → Prop) (w : World) (e : Ending) (w' : World) : Prop := ∃ a l c ls err, e = .returned (.tuple #[.slice a l c, .int .i64 err]) ∧ Nums w' a l c ls ∧ R ls ∧ Below w.heap.size w w'
/-- What is sure of a reckoning. -/
def SureT (R : List Int → Prop) (w : World) (e : Ending) (w' : World) : Prop := ∃ a l c ls, e = .returned (.slice a l c) ∧ Nums w' a l c ls ∧ R ls ∧ Below w.heap.size w w'

set_option maxRecDepth 20000 in
set_option maxHeartbeats 400000 in
theorem sure_any (k : Nat) (R : List Int → Prop) (a b : Option Addr) (la ca lb cb : Nat) (w : World) (hE : ∀ (args : Array Value) (w : World), (callFunc k args).run Tryz.prog w = .ok (.enter k args) w)
    (hC : Calls Tryz.prog k #[.slice a la ca, .slice b lb cb] w fun e w' => ReckT R w e w') :
    Calls Tryz.prog 13 #[.func (.func k) #[] #[], .slice a la ca, .slice b lb cb] w fun e w' => SureT R w e w' := by
  have HC : Hid (Calls Tryz.prog k #[.slice a la ca, .slice b lb cb] w fun e w' => ReckT R w e w') := hC
  clear hC
  go_enter Tryz.func13, Tryz.ntmps13
  go_wp2_with fail
  refine Calls.mono HC.out ?_
  rintro e w1 ⟨a', l, c, ls, err, rfl, hN, hR, hb⟩
  have HR : Hid (R ls) := hR
  clear HC hR
  go_wp2
  go_ret
  exact ⟨a', l, c, ls, rfl, hN, HR.out, hb⟩

set_option maxRecDepth 20000 in
set_option maxHeartbeats 400000 in
theorem sureP_any (k : Nat) (p : Option Addr) (R : List Int → Prop) (a b : Option Addr) (la ca lb cb : Nat) (w : World) (hE : ∀ (args : Array Value) (w : World), (callFunc k args).run Tryz.prog w = .ok (.enter k args) w)
    (hC : Calls Tryz.prog k #[.pointer p, .slice a la ca, .slice b lb cb] w fun e w' => ReckT R w e w') :
    Calls Tryz.prog 13 #[.func (.func k) #[.pointer p] #[], .slice a la ca, .slice b lb cb] w fun e w' => SureT R w e w' := by
  have HC : Hid (Calls Tryz.prog k #[.pointer p, .slice a la ca, .slice b lb cb] w fun e w' => ReckT R w e w') := hC
  clear hC
  go_enter Tryz.func13, Tryz.ntmps13
  go_wp2_with fail
  refine Calls.mono HC.out ?_
  rintro e w1 ⟨a', l, c, ls, err, rfl, hN, hR, hb⟩
  have HR : Hid (R ls) := hR
  clear HC hR
  go_wp2
  go_ret
  exact ⟨a', l, c, ls, rfl, hN, HR.out, hb⟩

theorem smul_any (a b : Option Addr) (la ca lb cb : Nat) (xs ys : List Int) (x y : Nat) (w : World) (h : Nums w a la ca xs) (h' : Nums w b lb cb ys) (hx : IsN xs x) (hy : IsN ys y) (hv : ((x * y : Nat) : Int) < 18446744073709551616 ^ 64) :
    Calls Tryz.prog 13 #[.func (.func 14) #[] #[], .slice a la ca, .slice b lb cb] w fun e w' => NumT (x * y) w e w' := by
  refine sure_any _ (fun ls => IsN ls (x * y)) _ _ _ _ _ _ _ Tryz.call14 ?_
  refine (mul_any _ _ _ _ _ _ _ _ _ h h').mono ?_
  rintro e w' ⟨a', n, c', ls, err, rfl, hL, hR, -, hb⟩
  have hr := hR.got hx.2.1 hy.2.1
  rw [hx.2.2, hy.2.2, ← Int.natCast_mul] at hr
  exact ⟨a', n, c', ls, err, rfl, hL, (IsN.res hr hv).1, hb⟩

theorem sadd_any (a b : Option Addr) (la ca lb cb : Nat) (xs ys : List Int) (x y : Nat) (w : World) (h : Nums w a la ca xs) (h' : Nums w b lb cb ys) (hx : IsN xs x) (hy : IsN ys y) (hv : ((x + y : Nat) : Int) < 18446744073709551616 ^ 64) :
    Calls Tryz.prog 13 #[.func (.func 79) #[] #[], .slice a la ca, .slice b lb cb] w fun e w' => NumT (x + y) w e w' := by
  refine sure_any _ (fun ls => IsN ls (x + y)) _ _ _ _ _ _ _ Tryz.call79 ?_
  refine (add_any _ _ _ _ _ _ _ _ _ h h').mono ?_
  rintro e w' ⟨a', n, c', ls, err, rfl, hL, hR, -, hb⟩
  have hr := hR.got hx.2.1 hy.2.1
  rw [hx.2.2, hy.2.2, ← Int.natCast_add] at hr
  exact ⟨a', n, c', ls, err, rfl, hL, (IsN.res hr hv).1, hb⟩

theorem ssub_any (a b : Option Addr) (la ca lb cb : Nat) (xs ys : List Int) (x y : Nat) (w : World) (h : Nums w a la ca xs) (h' : Nums w b lb cb ys) (hx : IsN xs x) (hy : IsN ys y) (hle : y ≤ x) (hv : ((x - y : Nat) : Int) < 18446744073709551616 ^ 64) :
    Calls Tryz.prog 13 #[.func (.func 59) #[] #[], .slice a la ca, .slice b lb cb] w fun e w' => NumT (x - y) w e w' := by
  refine sure_any _ (fun ls => IsN ls (x - y)) _ _ _ _ _ _ _ Tryz.call59 ?_
  refine (sub_any _ _ _ _ _ _ _ _ _ h h').mono ?_
  rintro e w' ⟨a', n, c', ls, err, rfl, hL, hR, -, hb⟩
  unfold ResSub at hR
  rw [hx.2.1, hy.2.1, if_pos (by rfl), hx.2.2, hy.2.2, if_neg (by omega), ← Int.ofNat_sub hle] at hR
  exact ⟨a', n, c', ls, err, rfl, hL, (IsN.res hR hv).1, hb⟩

set_option maxRecDepth 20000 in
set_option maxHeartbeats 400000 in
theorem psquare_any (a : Option Addr) (la ca : Nat) (ns : List Int) (n : Nat) (w : World) (h : Nums w a la ca ns) (hn : IsN ns n) (hb : n < 1208925819614629174706176) :
    Calls Tryz.prog 57 #[.slice a la ca] w fun e w' => NumT (n * n) w e w' := by
  have hlt : ((n * n : Nat) : Int) < 18446744073709551616 ^ 64 := by
    have h1 := sq_bd3 hb
    have h2 : (18446744073709551616 : Int) ^ 3 ≤ 18446744073709551616 ^ 64 := by decide
    omega
  have HS := (show Hid _ from smul_any _ _ _ _ _ _ _ _ _ _ _ h h hn hn hlt)
  clear h hn hlt
  go_enter Tryz.func57, Tryz.ntmps57
  go_wp2_with fail
  refine Calls.mono HS.out ?_
  rintro e w1 ⟨a', l, c, ls, rfl, hL, hI, hb1⟩
  have HI : Hid (IsN ls (n * n)) := hI
  clear HS hI
  go_wp2
  go_ret
  exact ⟨a', l, c, ls, rfl, hL, HI.out, hb1⟩

set_option maxRecDepth 20000 in
set_option maxHeartbeats 400000 in
theorem restOf_any (a b : Option Addr) (la ca lb cb : Nat) (xs ys : List Int) (x y : Nat) (w : World) (h : Nums w a la ca xs) (h' : Nums w b lb cb ys) (hx : IsN xs x) (hy : IsN ys y) (hp : 0 < y) :
    Calls Tryz.prog 29 #[.slice a la ca, .slice b lb cb] w fun e w' => NumT (x % y) w e w' := by
  go_enter Tryz.func29, Tryz.ntmps29
  go_wp2_with fail
  refine (div_any _ _ _ _ _ _ _ _ _ h h').mono ?_
  rintro e w1 ⟨a1, k1, c1, qs, a2, k2, c2, rs, err, rfl, -, hL, hR, -, -, -, hb⟩
  have HI : Hid (IsN rs (x % y)) := by
    unfold ResDiv at hR
    rw [hx.2.1, hy.2.1, if_pos (by rfl), if_neg (by have := hy.pos hp; omega), hx.2.2, hy.2.2] at hR
    obtain ⟨_, _, k1, _, k2, _, k3⟩ := hR
    exact ⟨k1, k2, by rw [k3, ← Int.natCast_emod]⟩
  clear hR h h' hx hy
  go_wp2
  go_ret
  exact ⟨a2, k2, c2, rs, rfl, hL, HI.out, hb⟩

set_option maxRecDepth 20000 in
set_option maxHeartbeats 400000 in
theorem timesOf_any (a b : Option Addr) (la ca lb cb : Nat) (ns us : List Int) (n u : Nat) (w : World) (h : Nums w a la ca ns) (h' : Nums w b lb cb us) (hn : IsN ns n) (hu : IsN us u) (hp : 0 < n) (h1 : 1 ≤ u) (hv : ((u - 1 : Nat) : Int) < 18446744073709551616 ^ 64) :
    Calls Tryz.prog 27 #[.slice a la ca, .slice b lb cb] w fun e w' => NumT ((u - 1) / n) w e w' := by
  have HV : Hid (((u - 1 : Nat) : Int) < 18446744073709551616 ^ 64) := hv
  clear hv
  go_enter Tryz.func27, Tryz.ntmps27
  go_wp2_with fail
  refine (of_any 1 _ (by omega)).mono ?_
  rintro e w1 ⟨oa, ol, oc, rfl, hO, hb1⟩
  have k := h.below hb1
  have k' := h'.below hb1
  clear h h'
  go_wp2_with fail
  refine (ssub_any _ _ _ _ _ _ _ _ _ _ _ k' hO hu isN_one6 h1 HV.out).mono ?_
  rintro e w2 ⟨sa, sl, sc, ss, rfl, hS, hs, hb2⟩
  have m := k.below hb2
  have hB2 := hb1.trans (hb2.mono hb1.size)
  clear k k' hO hb1 hb2
  go_wp2_with fail
  refine (div_any _ _ _ _ _ _ _ _ _ hS m).mono ?_
  rintro e w3 ⟨a1, k1, c1, qs, a2, k2, c2, rs, err, rfl, hL, -, hR, -, -, -, hb3⟩
  have hB3 := hB2.trans (hb3.mono hB2.size)
  have HI : Hid (IsN qs ((u - 1) / n)) := by
    unfold ResDiv at hR
    rw [hs.2.1, hn.2.1, if_pos (by rfl), if_neg (by have := hn.pos hp; omega), hs.2.2, hn.2.2] at hR
    obtain ⟨_, k1, _, k2, _, k3, _⟩ := hR
    exact ⟨k1, k2, by rw [k3, ← Int.natCast_ediv]⟩
  clear hR hS m hs hn hB2 hb3 HV
  go_wp2
  go_ret
  exact ⟨a1, k1, c1, qs, rfl, hL, HI.out, hB3⟩

set_option maxRecDepth 20000 in
set_option maxHeartbeats 800000 in
theorem pproduct_any (a b d : Option Addr) (la ca lb cb ld cd : Nat) (ns xs ys : List Int) (n x y : Nat) (w : World) (h : Nums w a la ca ns) (h' : Nums w b lb cb xs) (hd : Nums w d ld cd ys) (hn : IsN ns n) (hx : IsN xs x) (hy : IsN ys y) (hb : n < 1208925819614629174706176) (hp : 0 < n) (hv : ((x * y : Nat) : Int) < 18446744073709551616 ^ 64) :
    Calls Tryz.prog 26 #[.slice a la ca, .slice b lb cb, .slice d ld cd] w fun e w' => NumT (x * y % (n * n)) w e w' := by
  have HV : Hid (((x * y : Nat) : Int) < 18446744073709551616 ^ 64) := hv
  clear hv
  go_enter Tryz.func26, Tryz.ntmps26
  go_wp2_with fail
  refine (smul_any _ _ _ _ _ _ _ _ _ _ _ h' hd hx hy HV.out).mono ?_
  rintro e w1 ⟨pa, pl, pc, ps, rfl, hP, hp1, hb1⟩
  have k := h.below hb1
  clear h h' hd HV
  go_wp2_with fail
  refine (psquare_any _ _ _ _ _ _ k hn hb).mono ?_
  rintro e w2 ⟨sa, sl, sc, ss, rfl, hS, hs, hb2⟩
  have hP2 := hP.below hb2
  have hB2 := hb1.trans (hb2.mono hb1.size)
  have hnp : 0 < n * n := Nat.mul_pos hp hp
  clear k hP hb1 hb2
  go_wp2_with fail
  refine (restOf_any _ _ _ _ _ _ _ _ _ _ _ hP2 hS hp1 hs hnp).mono ?_
  rintro e w3 ⟨ra, rl, rc, rs, rfl, hR, hr, hb3⟩
  have hB3 := hB2.trans (hb3.mono hB2.size)
  have HI : Hid (IsN rs (x * y % (n * n))) := hr
  clear hr hP2 hS hp1 hs hnp hB2 hb3 hn hx hy
  go_wp2
  go_ret
  exact ⟨ra, rl, rc, rs, rfl, hR, HI.out, hB3⟩

theorem may_of {zs : List Int} (h : ModOk zs) (hd : Digs 18446744073709551616 zs) : mayB zs = true := by
  have ho : zs.getD 0 0 % 2 = 1 := by
    have := h.odd
    cases zs with
    | nil => simp [val] at this
    | cons x r => simp [val] at this ⊢; omega
  have h3 := (may_three hd h.right h.len.1 ho).2 h.three
  have e : (decide (1 < zs.length) || decide (1 < zs.getD 0 0)) = true := by rw [Bool.or_eq_true, decide_eq_true_eq, decide_eq_true_eq]; exact h3
  unfold mayB
  rw [h.right, decide_eq_true h.len.1, decide_eq_true h.len.2, decide_eq_true ho, e]
  rfl

set_option maxRecDepth 20000 in
set_option maxHeartbeats 800000 in
theorem ppower_any (a b d : Option Addr) (la ca lb cb ld cd : Nat) (ns xs es : List Int) (n x E : Nat) (w : World) (h : Nums w a la ca ns) (h' : Nums w b lb cb xs) (hd : Nums w d ld cd es) (hn : IsN ns n) (hx : IsN xs x) (he : IsN es E) (hm : mayN n = true) (hlt : x < n * n) (hl : es.length ≤ 8) :
    Calls Tryz.prog 28 #[.slice a la ca, .slice b lb cb, .slice d ld cd] w fun e w' => NumT (x ^ E % (n * n)) w e w' := by
  have hnb := ((mayN_iff n).1 hm).2.2
  go_enter Tryz.func28, Tryz.ntmps28
  go_wp2_with fail
  refine (psquare_any _ _ _ _ _ _ h hn hnb).mono ?_
  rintro e w1 ⟨sa, sl, sc, ss, rfl, hS, hs, hb1⟩
  have k' := h'.below hb1
  have kd := hd.below hb1
  have hM := sq_mod hm hs
  have hmay := may_of hM hS.digs
  clear h h' hd
  go_wp2_with fail
  refine (new_any _ _ _ _ _ hS).mono ?_
  rintro e w2 ⟨⟨hf, -⟩ | ⟨-, g, f, qs, rfl, hRA, hRO⟩, hb2⟩
  · rw [hmay] at hf; cases hf
  · have m' := k'.below hb2
    have md := kd.below hb2
    have hB2 := hb1.trans (hb2.mono hb1.size)
    have HE := (show Hid _ from mExp_any _ _ _ _ _ _ _ _ _ _ _ _ E _ hRA hRO m' md he.2.2)
    have hok : expB xs es ss = true := by
      unfold expB
      rw [below_mk hx.2.1 (by rw [hx.2.2, hs.2.2]; omega), he.2.1, decide_eq_true hl]
      rfl
    rw [hok, hx.2.2] at HE
    have HT : Hid (Calls Tryz.prog 13 #[.func (.func 61) #[.pointer (some ⟨g, 0, none⟩)] #[], .slice b lb cb, .slice d ld cd] w2 fun e w' => NumT (x ^ E % (n * n)) w2 e w') := by
      refine sureP_any _ _ (fun ls => IsN ls (x ^ E % (n * n))) _ _ _ _ _ _ _ Tryz.call61 ?_
      refine Calls.mono HE.out ?_
      rintro e w' ⟨a', n', c', ls, err, rfl, hL, hR, hb⟩
      unfold ResExp at hR
      rw [if_pos rfl, hs.2.2, ← Int.natCast_pow, ← Int.natCast_emod] at hR
      exact ⟨a', n', c', ls, err, rfl, hL, ⟨hR.2.1, (below_parts hR.2.2.1).1, hR.2.2.2⟩, hb⟩
    clear HE hok hRA hRO m' md k' kd hS hs hM hmay hb1 hb2 hn hx he
    have hmf : ∀ (fn : Fn) (first cap : Array Value) (w : World), (Instr.makeFunc fn first cap).run Tryz.prog w = .ok (.func fn first cap) w := fun _ _ _ _ => rfl
    go_wp2_with fail
    refine Calls.mono HT.out ?_
    rintro e w3 ⟨ra, rl, rc, rs, rfl, hR, hr, hb3⟩
    have hB3 := hB2.trans (hb3.mono hB2.size)
    have HI : Hid (IsN rs (x ^ E % (n * n))) := hr
    clear hr HT hB2 hb3 hmf
    go_wp2
    go_ret
    exact ⟨ra, rl, rc, rs, rfl, hR, HI.out, hB3⟩

set_option maxRecDepth 20000 in
set_option maxHeartbeats 400000 in
theorem bare_any (a b : Option Addr) (la ca lb cb : Nat) (ns ms : List Int) (n m : Nat) (w : World) (h : Nums w a la ca ns) (h' : Nums w b lb cb ms) (hn : IsN ns n) (hm : IsN ms m) (hb : n < 1208925819614629174706176) (hmn : m < n) :
    Calls Tryz.prog 54 #[.slice a la ca, .slice b lb cb] w fun e w' => NumT (1 + n * m) w e w' := by
  have hle : m * n ≤ n * n := Nat.mul_le_mul (by omega) (Nat.le_refl n)
  have h1 := sq_bd3 hb
  have h2 : (18446744073709551616 : Int) ^ 3 + 1 ≤ 18446744073709551616 ^ 64 := by decide
  have hl1 : ((m * n : Nat) : Int) < 18446744073709551616 ^ 64 := by omega
  have hl2 : ((1 + m * n : Nat) : Int) < 18446744073709551616 ^ 64 := by omega
  have HL : Hid (((m * n : Nat) : Int) < 18446744073709551616 ^ 64 ∧ ((1 + m * n : Nat) : Int) < 18446744073709551616 ^ 64) := ⟨hl1, hl2⟩
  clear hle h1 h2 hl1 hl2
  go_enter Tryz.func54, Tryz.ntmps54
  go_wp2_with fail
  refine (of_any 1 _ (by omega)).mono ?_
  rintro e w1 ⟨oa, ol, oc, rfl, hO, hb1⟩
  have k := h.below hb1
  have k' := h'.below hb1
  clear h h'
  go_wp2_with fail
  refine (smul_any _ _ _ _ _ _ _ _ _ _ _ k' k hm hn HL.out.1).mono ?_
  rintro e w2 ⟨pa, pl, pc, ps, rfl, hP, hp, hb2⟩
  have hO2 := hO.below hb2
  have hB2 := hb1.trans (hb2.mono hb1.size)
  clear k k' hO hb1 hb2
  go_wp2_with fail
  refine (sadd_any _ _ _ _ _ _ _ _ _ _ _ hO2 hP isN_one6 hp HL.out.2).mono ?_
  rintro e w3 ⟨sa, sl, sc, ss, rfl, hS, hs, hb3⟩
  have hB3 := hB2.trans (hb3.mono hB2.size)
  have HI : Hid (IsN ss (1 + n * m)) := by show IsN _ _; rw [Nat.mul_comm n m]; exact hs
  clear hs hp hO2 hP hB2 hb3 HL hn hm
  go_wp2
  go_ret
  exact ⟨sa, sl, sc, ss, rfl, hS, HI.out, hB3⟩

theorem two_len {ns : List Int} {n : Nat} (hn : IsN ns n) (hb : n < 1208925819614629174706176) : ns.length ≤ 8 := Nat.le_trans (hn.len (k := 2) (by
  have e : (18446744073709551616 : Int) ^ 2 = 340282366920938463463374607431768211456 := by decide
  omega)) (by decide)

set_option maxRecDepth 20000 in
set_option maxHeartbeats 400000 in
theorem cover_any (a b : Option Addr) (la ca lb cb : Nat) (ns rs : List Int) (n r : Nat) (w : World) (h : Nums w a la ca ns) (h' : Nums w b lb cb rs) (hn : IsN ns n) (hr : IsN rs r) (hm : mayN n = true) (hrn : r < n) :
    Calls Tryz.prog 55 #[.slice a la ca, .slice b lb cb] w fun e w' => NumT (r ^ n % (n * n)) w e w' := by
  obtain ⟨n1, n2, n3⟩ := (mayN_iff n).1 hm
  have hsq : r < n * n := Nat.lt_of_lt_of_le hrn (Nat.le_mul_of_pos_left n (by omega))
  have HP := (show Hid _ from ppower_any _ _ _ _ _ _ _ _ _ _ _ _ n r n _ h h' h hn hr hn hm hsq (two_len hn n3))
  clear h h' hn hr hm hsq n1 n2 n3
  go_enter Tryz.func55, Tryz.ntmps55
  go_wp2_with fail
  refine Calls.mono HP.out ?_
  rintro e w1 ⟨pa, pl, pc, ps, rfl, hP, hp, hb1⟩
  have HI : Hid (IsN ps (r ^ n % (n * n))) := hp
  clear hp HP
  go_wp2
  go_ret
  exact ⟨pa, pl, pc, ps, rfl, hP, HI.out, hb1⟩
end Go.Proofs.YtambpcgdaogojabGreat
