/-
  Contracts of package paillier's sure, square, restOf, product, power, bare, cover and timesOf.
  Contracts of package paillier's May, isBelow, apart, isHider and isCipher.
  Contracts of package paillier's plain, hider, cipher and faultOf.
  Contracts of package paillier's Encrypt, Add, Plain, Scale, Again and Valid.
-/
import Derived.Test.YtnbdbahfekneoaaGreatP6A
import Derived.Test.YtnbdbahfekneoaaGreatNatC
import Derived.Test.YtnbdbahfekneoaaGreatNatB
import Derived.Test.YtnbdbahfekneoaaGreatNatE
import Derived.Test.YtnbdbahfekneoaaGreatMontB
import Derived.Test.YtnbdbahfekneoaaGreatMontC
import Derived.Laws.EntriesVeiled
import Derived.Test.YtnbdbahfekneoaaGreatNatD
import Derived.Test.YtnbdbahfekneoaaGreatNatA
import Derived.Test.YtnbdbahfekneoaaGreatGcdC
import Derived.Laws.NewBlocks
namespace Go.Proofs.YtnbdbahfekneoaaGreat
open Go.RowKit

theorem isN_one6 : IsN (ofZ 1) 1 := ⟨fun y hy => by simp [ofZ] at hy; subst hy; decide, by decide, by decide⟩
/-- What a call that tells a number makes. -/
def NumQT (v : Nat) (w : World) (e : Ending) (w' : World) : Prop := ∃ a l c ls, e = .returned (.slice a l c) ∧ Nums w' a l c ls ∧ IsN ls v ∧ Below w.heap.size w w'
/-- What a reckoning makes. -/
def ReckT (R : List Int → Prop) (w : World) (e : Ending) (w' : World) : Prop := ∃ a l c ls err, e = .returned (.tuple #[.slice a l c, .int .i64 err]) ∧ Nums w' a l c ls ∧ R ls ∧ Below w.heap.size w w'
/-- What is sure of a reckoning. -/
def SureT (R : List Int → Prop) (w : World) (e : Ending) (w' : World) : Prop := ∃ a l c ls, e = .returned (.slice a l c) ∧ Nums w' a l c ls ∧ R ls ∧ Below w.heap.size w w'

set_option maxRecDepth 20000 in
set_option maxHeartbeats 400000 in
theorem sure_any (k : Nat) (R : List Int → Prop) (a b : Option Addr) (la ca lb cb : Nat) (w : World) (hE : ∀ (args : Array Value) (w : World), (callFunc k args).run Tryz.prog w = .ok (.enter k args) w)
    (hC : Calls Tryz.prog k #[.slice a la ca, .slice b lb cb] w fun e w' => ReckT R w e w') :
    Calls Tryz.prog 14 #[.func (.func k) #[] #[], .slice a la ca, .slice b lb cb] w fun e w' => SureT R w e w' := by
  have HC : Hid (Calls Tryz.prog k #[.slice a la ca, .slice b lb cb] w fun e w' => ReckT R w e w') := hC
  clear hC
  go_enter Tryz.func14, Tryz.ntmps14
  go_wp2_with fail
  refine Calls.mono HC.out ?_
  rintro e w1 ⟨a', l, c, ls, err, rfl, hN, hR, hb⟩
  have HR : Hid (R ls) := hR
  clear HC hR
  go_wp2
  go_ret
  exact ⟨a', l, c, ls, rfl, hN, HR.out, hb⟩

set_option maxRecDepth 20000 in
set_option maxHeartbeats 400000 in
theorem sureP_any (k : Nat) (p : Option Addr) (R : List Int → Prop) (a b : Option Addr) (la ca lb cb : Nat) (w : World) (hE : ∀ (args : Array Value) (w : World), (callFunc k args).run Tryz.prog w = .ok (.enter k args) w)
    (hC : Calls Tryz.prog k #[.pointer p, .slice a la ca, .slice b lb cb] w fun e w' => ReckT R w e w') :
    Calls Tryz.prog 14 #[.func (.func k) #[.pointer p] #[], .slice a la ca, .slice b lb cb] w fun e w' => SureT R w e w' := by
  have HC : Hid (Calls Tryz.prog k #[.pointer p, .slice a la ca, .slice b lb cb] w fun e w' => ReckT R w e w') := hC
  clear hC
  go_enter Tryz.func14, Tryz.ntmps14
  go_wp2_with fail
  refine Calls.mono HC.out ?_
  rintro e w1 ⟨a', l, c, ls, err, rfl, hN, hR, hb⟩
  have HR : Hid (R ls) := hR
  clear HC hR
  go_wp2
  go_ret
  exact ⟨a', l, c, ls, rfl, hN, HR.out, hb⟩

theorem smul_any (a b : Option Addr) (la ca lb cb : Nat) (xs ys : List Int) (x y : Nat) (w : World) (h : Nums w a la ca xs) (h' : Nums w b lb cb ys) (hx : IsN xs x) (hy : IsN ys y) (hv : ((x * y : Nat) : Int) < 18446744073709551616 ^ 64) :
    Calls Tryz.prog 14 #[.func (.func 15) #[] #[], .slice a la ca, .slice b lb cb] w fun e w' => NumQT (x * y) w e w' := by
  refine sure_any _ (fun ls => IsN ls (x * y)) _ _ _ _ _ _ _ Tryz.call15 ?_
  refine (mul_any _ _ _ _ _ _ _ _ _ h h').mono ?_
  rintro e w' ⟨a', n, c', ls, err, rfl, hL, hR, -, hb⟩
  have hr := hR.got hx.2.1 hy.2.1
  rw [hx.2.2, hy.2.2, ← Int.natCast_mul] at hr
  exact ⟨a', n, c', ls, err, rfl, hL, (IsN.res hr hv).1, hb⟩

theorem sadd_any (a b : Option Addr) (la ca lb cb : Nat) (xs ys : List Int) (x y : Nat) (w : World) (h : Nums w a la ca xs) (h' : Nums w b lb cb ys) (hx : IsN xs x) (hy : IsN ys y) (hv : ((x + y : Nat) : Int) < 18446744073709551616 ^ 64) :
    Calls Tryz.prog 14 #[.func (.func 97) #[] #[], .slice a la ca, .slice b lb cb] w fun e w' => NumQT (x + y) w e w' := by
  refine sure_any _ (fun ls => IsN ls (x + y)) _ _ _ _ _ _ _ Tryz.call97 ?_
  refine (add_any _ _ _ _ _ _ _ _ _ h h').mono ?_
  rintro e w' ⟨a', n, c', ls, err, rfl, hL, hR, -, hb⟩
  have hr := hR.got hx.2.1 hy.2.1
  rw [hx.2.2, hy.2.2, ← Int.natCast_add] at hr
  exact ⟨a', n, c', ls, err, rfl, hL, (IsN.res hr hv).1, hb⟩

theorem ssub_any (a b : Option Addr) (la ca lb cb : Nat) (xs ys : List Int) (x y : Nat) (w : World) (h : Nums w a la ca xs) (h' : Nums w b lb cb ys) (hx : IsN xs x) (hy : IsN ys y) (hle : y ≤ x) (hv : ((x - y : Nat) : Int) < 18446744073709551616 ^ 64) :
    Calls Tryz.prog 14 #[.func (.func 76) #[] #[], .slice a la ca, .slice b lb cb] w fun e w' => NumQT (x - y) w e w' := by
  refine sure_any _ (fun ls => IsN ls (x - y)) _ _ _ _ _ _ _ Tryz.call76 ?_
  refine (sub_any _ _ _ _ _ _ _ _ _ h h').mono ?_
  rintro e w' ⟨a', n, c', ls, err, rfl, hL, hR, -, hb⟩
  unfold ResSub at hR
  rw [hx.2.1, hy.2.1, if_pos (by rfl), hx.2.2, hy.2.2, if_neg (by omega), ← Int.ofNat_sub hle] at hR
  exact ⟨a', n, c', ls, err, rfl, hL, (IsN.res hR hv).1, hb⟩

set_option maxRecDepth 20000 in
set_option maxHeartbeats 400000 in
theorem psquare_any (a : Option Addr) (la ca : Nat) (ns : List Int) (n : Nat) (w : World) (h : Nums w a la ca ns) (hn : IsN ns n) (hb : n < 1208925819614629174706176) :
    Calls Tryz.prog 78 #[.slice a la ca] w fun e w' => NumQT (n * n) w e w' := by
  have hlt : ((n * n : Nat) : Int) < 18446744073709551616 ^ 64 := by
    have h1 := sq_bd3 hb
    have h2 : (18446744073709551616 : Int) ^ 3 ≤ 18446744073709551616 ^ 64 := by decide
    omega
  have HS := (show Hid _ from smul_any _ _ _ _ _ _ _ _ _ _ _ h h hn hn hlt)
  clear h hn hlt
  go_enter Tryz.func78, Tryz.ntmps78
  go_wp2_with fail
  refine Calls.mono HS.out ?_
  rintro e w1 ⟨a', l, c, ls, rfl, hL, hI, hb1⟩
  have HI : Hid (IsN ls (n * n)) := hI
  clear HS hI
  go_wp2
  go_ret
  exact ⟨a', l, c, ls, rfl, hL, HI.out, hb1⟩

set_option maxRecDepth 20000 in
set_option maxHeartbeats 400000 in
theorem restOf_any (a b : Option Addr) (la ca lb cb : Nat) (xs ys : List Int) (x y : Nat) (w : World) (h : Nums w a la ca xs) (h' : Nums w b lb cb ys) (hx : IsN xs x) (hy : IsN ys y) (hp : 0 < y) :
    Calls Tryz.prog 40 #[.slice a la ca, .slice b lb cb] w fun e w' => NumQT (x % y) w e w' := by
  go_enter Tryz.func40, Tryz.ntmps40
  go_wp2_with fail
  refine (div_any _ _ _ _ _ _ _ _ _ h h').mono ?_
  rintro e w1 ⟨a1, k1, c1, qs, a2, k2, c2, rs, err, rfl, -, hL, hR, -, -, -, hb⟩
  have HI : Hid (IsN rs (x % y)) := by
    unfold ResDiv at hR
    rw [hx.2.1, hy.2.1, if_pos (by rfl), if_neg (by have := hy.pos hp; omega), hx.2.2, hy.2.2] at hR
    obtain ⟨_, _, k1, _, k2, _, k3⟩ := hR
    exact ⟨k1, k2, by rw [k3, ← Int.natCast_emod]⟩
  clear hR h h' hx hy
  go_wp2
  go_ret
  exact ⟨a2, k2, c2, rs, rfl, hL, HI.out, hb⟩

set_option maxRecDepth 20000 in
set_option maxHeartbeats 400000 in
theorem timesOf_any (a b : Option Addr) (la ca lb cb : Nat) (ns us : List Int) (n u : Nat) (w : World) (h : Nums w a la ca ns) (h' : Nums w b lb cb us) (hn : IsN ns n) (hu : IsN us u) (hp : 0 < n) (h1 : 1 ≤ u) (hv : ((u - 1 : Nat) : Int) < 18446744073709551616 ^ 64) :
    Calls Tryz.prog 38 #[.slice a la ca, .slice b lb cb] w fun e w' => NumQT ((u - 1) / n) w e w' := by
  have HV : Hid (((u - 1 : Nat) : Int) < 18446744073709551616 ^ 64) := hv
  clear hv
  go_enter Tryz.func38, Tryz.ntmps38
  go_wp2_with fail
  refine (of_any 1 _ (by omega)).mono ?_
  rintro e w1 ⟨oa, ol, oc, rfl, hO, hb1⟩
  have k := h.below hb1
  have k' := h'.below hb1
  clear h h'
  go_wp2_with fail
  refine (ssub_any _ _ _ _ _ _ _ _ _ _ _ k' hO hu isN_one6 h1 HV.out).mono ?_
  rintro e w2 ⟨sa, sl, sc, ss, rfl, hS, hs, hb2⟩
  have m := k.below hb2
  have hB2 := hb1.trans (hb2.mono hb1.size)
  clear k k' hO hb1 hb2
  go_wp2_with fail
  refine (div_any _ _ _ _ _ _ _ _ _ hS m).mono ?_
  rintro e w3 ⟨a1, k1, c1, qs, a2, k2, c2, rs, err, rfl, hL, -, hR, -, -, -, hb3⟩
  have hB3 := hB2.trans (hb3.mono hB2.size)
  have HI : Hid (IsN qs ((u - 1) / n)) := by
    unfold ResDiv at hR
    rw [hs.2.1, hn.2.1, if_pos (by rfl), if_neg (by have := hn.pos hp; omega), hs.2.2, hn.2.2] at hR
    obtain ⟨_, k1, _, k2, _, k3, _⟩ := hR
    exact ⟨k1, k2, by rw [k3, ← Int.natCast_ediv]⟩
  clear hR hS m hs hn hB2 hb3 HV
  go_wp2
  go_ret
  exact ⟨a1, k1, c1, qs, rfl, hL, HI.out, hB3⟩

set_option maxRecDepth 20000 in
set_option maxHeartbeats 800000 in
theorem pproduct_any (a b d : Option Addr) (la ca lb cb ld cd : Nat) (ns xs ys : List Int) (n x y : Nat) (w : World) (h : Nums w a la ca ns) (h' : Nums w b lb cb xs) (hd : Nums w d ld cd ys) (hn : IsN ns n) (hx : IsN xs x) (hy : IsN ys y) (hb : n < 1208925819614629174706176) (hp : 0 < n) (hv : ((x * y : Nat) : Int) < 18446744073709551616 ^ 64) :
    Calls Tryz.prog 53 #[.slice a la ca, .slice b lb cb, .slice d ld cd] w fun e w' => NumQT (x * y % (n * n)) w e w' := by
  have HV : Hid (((x * y : Nat) : Int) < 18446744073709551616 ^ 64) := hv
  clear hv
  go_enter Tryz.func53, Tryz.ntmps53
  go_wp2_with fail
  refine (smul_any _ _ _ _ _ _ _ _ _ _ _ h' hd hx hy HV.out).mono ?_
  rintro e w1 ⟨pa, pl, pc, ps, rfl, hP, hp1, hb1⟩
  have k := h.below hb1
  clear h h' hd HV
  go_wp2_with fail
  refine (psquare_any _ _ _ _ _ _ k hn hb).mono ?_
  rintro e w2 ⟨sa, sl, sc, ss, rfl, hS, hs, hb2⟩
  have hP2 := hP.below hb2
  have hB2 := hb1.trans (hb2.mono hb1.size)
  have hnp : 0 < n * n := Nat.mul_pos hp hp
  clear k hP hb1 hb2
  go_wp2_with fail
  refine (restOf_any _ _ _ _ _ _ _ _ _ _ _ hP2 hS hp1 hs hnp).mono ?_
  rintro e w3 ⟨ra, rl, rc, rs, rfl, hR, hr, hb3⟩
  have hB3 := hB2.trans (hb3.mono hB2.size)
  have HI : Hid (IsN rs (x * y % (n * n))) := hr
  clear hr hP2 hS hp1 hs hnp hB2 hb3 hn hx hy
  go_wp2
  go_ret
  exact ⟨ra, rl, rc, rs, rfl, hR, HI.out, hB3⟩

theorem may_of {zs : List Int} (h : ModOk zs) (hd : Digs 18446744073709551616 zs) : mayB zs = true := by
  have ho : zs.getD 0 0 % 2 = 1 := by
    have := h.odd
    cases zs with
    | nil => simp [val] at this
    | cons x r => simp [val] at this ⊢; omega
  have h3 := (may_three hd h.right h.len.1 ho).2 h.three
  have e : (decide (1 < zs.length) || decide (1 < zs.getD 0 0)) = true := by rw [Bool.or_eq_true, decide_eq_true_eq, decide_eq_true_eq]; exact h3
  unfold mayB
  rw [h.right, decide_eq_true h.len.1, decide_eq_true h.len.2, decide_eq_true ho, e]
  rfl

set_option maxRecDepth 20000 in
set_option maxHeartbeats 800000 in
theorem ppower_any (a b d : Option Addr) (la ca lb cb ld cd : Nat) (ns xs es : List Int) (n x E : Nat) (w : World) (h : Nums w a la ca ns) (h' : Nums w b lb cb xs) (hd : Nums w d ld cd es) (hn : IsN ns n) (hx : IsN xs x) (he : IsN es E) (hm : mayN n = true) (hlt : x < n * n) (hl : es.length ≤ 8) :
    Calls Tryz.prog 39 #[.slice a la ca, .slice b lb cb, .slice d ld cd] w fun e w' => NumQT (x ^ E % (n * n)) w e w' := by
  have hnb := ((mayN_iff n).1 hm).2.2
  go_enter Tryz.func39, Tryz.ntmps39
  go_wp2_with fail
  refine (psquare_any _ _ _ _ _ _ h hn hnb).mono ?_
  rintro e w1 ⟨sa, sl, sc, ss, rfl, hS, hs, hb1⟩
  have k' := h'.below hb1
  have kd := hd.below hb1
  have hM := sq_mod hm hs
  have hmay := may_of hM hS.digs
  clear h h' hd
  go_wp2_with fail
  refine (new_any _ _ _ _ _ hS).mono ?_
  rintro e w2 ⟨⟨hf, -⟩ | ⟨-, g, f, qs, rfl, hRA, hRO⟩, hb2⟩
  · rw [hmay] at hf; cases hf
  · have m' := k'.below hb2
    have md := kd.below hb2
    have hB2 := hb1.trans (hb2.mono hb1.size)
    have HE := (show Hid _ from mExp_any _ _ _ _ _ _ _ _ _ _ _ _ E _ hRA hRO m' md he.2.2)
    have hok : expB xs es ss = true := by
      unfold expB
      rw [below_mk hx.2.1 (by rw [hx.2.2, hs.2.2]; omega), he.2.1, decide_eq_true hl]
      rfl
    rw [hok, hx.2.2] at HE
    have HT : Hid (Calls Tryz.prog 14 #[.func (.func 79) #[.pointer (some ⟨g, 0, none⟩)] #[], .slice b lb cb, .slice d ld cd] w2 fun e w' => NumQT (x ^ E % (n * n)) w2 e w') := by
      refine sureP_any _ _ (fun ls => IsN ls (x ^ E % (n * n))) _ _ _ _ _ _ _ Tryz.call79 ?_
      refine Calls.mono HE.out ?_
      rintro e w' ⟨a', n', c', ls, err, rfl, hL, hR, hb⟩
      unfold ResExp at hR
      rw [if_pos rfl, hs.2.2, ← Int.natCast_pow, ← Int.natCast_emod] at hR
      exact ⟨a', n', c', ls, err, rfl, hL, ⟨hR.2.1, (below_parts hR.2.2.1).1, hR.2.2.2⟩, hb⟩
    clear HE hok hRA hRO m' md k' kd hS hs hM hmay hb1 hb2 hn hx he
    have hmf : ∀ (fn : Fn) (first cap : Array Value) (w : World), (Instr.makeFunc fn first cap).run Tryz.prog w = .ok (.func fn first cap) w := fun _ _ _ _ => rfl
    go_wp2_with fail
    refine Calls.mono HT.out ?_
    rintro e w3 ⟨ra, rl, rc, rs, rfl, hR, hr, hb3⟩
    have hB3 := hB2.trans (hb3.mono hB2.size)
    have HI : Hid (IsN rs (x ^ E % (n * n))) := hr
    clear hr HT hB2 hb3 hmf
    go_wp2
    go_ret
    exact ⟨ra, rl, rc, rs, rfl, hR, HI.out, hB3⟩

set_option maxRecDepth 20000 in
set_option maxHeartbeats 400000 in
theorem bare_any (a b : Option Addr) (la ca lb cb : Nat) (ns ms : List Int) (n m : Nat) (w : World) (h : Nums w a la ca ns) (h' : Nums w b lb cb ms) (hn : IsN ns n) (hm : IsN ms m) (hb : n < 1208925819614629174706176) (hmn : m < n) :
    Calls Tryz.prog 54 #[.slice a la ca, .slice b lb cb] w fun e w' => NumQT (1 + n * m) w e w' := by
  have hle : m * n ≤ n * n := Nat.mul_le_mul (by omega) (Nat.le_refl n)
  have h1 := sq_bd3 hb
  have h2 : (18446744073709551616 : Int) ^ 3 + 1 ≤ 18446744073709551616 ^ 64 := by decide
  have hl1 : ((m * n : Nat) : Int) < 18446744073709551616 ^ 64 := by omega
  have hl2 : ((1 + m * n : Nat) : Int) < 18446744073709551616 ^ 64 := by omega
  have HL : Hid (((m * n : Nat) : Int) < 18446744073709551616 ^ 64 ∧ ((1 + m * n : Nat) : Int) < 18446744073709551616 ^ 64) := ⟨hl1, hl2⟩
  clear hle h1 h2 hl1 hl2
  go_enter Tryz.func54, Tryz.ntmps54
  go_wp2_with fail
  refine (of_any 1 _ (by omega)).mono ?_
  rintro e w1 ⟨oa, ol, oc, rfl, hO, hb1⟩
  have k := h.below hb1
  have k' := h'.below hb1
  clear h h'
  go_wp2_with fail
  refine (smul_any _ _ _ _ _ _ _ _ _ _ _ k' k hm hn HL.out.1).mono ?_
  rintro e w2 ⟨pa, pl, pc, ps, rfl, hP, hp, hb2⟩
  have hO2 := hO.below hb2
  have hB2 := hb1.trans (hb2.mono hb1.size)
  clear k k' hO hb1 hb2
  go_wp2_with fail
  refine (sadd_any _ _ _ _ _ _ _ _ _ _ _ hO2 hP isN_one6 hp HL.out.2).mono ?_
  rintro e w3 ⟨sa, sl, sc, ss, rfl, hS, hs, hb3⟩
  have hB3 := hB2.trans (hb3.mono hB2.size)
  have HI : Hid (IsN ss (1 + n * m)) := by show IsN _ _; rw [Nat.mul_comm n m]; exact hs
  clear hs hp hO2 hP hB2 hb3 HL hn hm
  go_wp2
  go_ret
  exact ⟨sa, sl, sc, ss, rfl, hS, HI.out, hB3⟩

theorem two_len {ns : List Int} {n : Nat} (hn : IsN ns n) (hb : n < 1208925819614629174706176) : ns.length ≤ 8 := Nat.le_trans (hn.len (k := 2) (by
  have e : (18446744073709551616 : Int) ^ 2 = 340282366920938463463374607431768211456 := by decide
  omega)) (by decide)

set_option maxRecDepth 20000 in
set_option maxHeartbeats 400000 in
theorem cover_any (a b : Option Addr) (la ca lb cb : Nat) (ns rs : List Int) (n r : Nat) (w : World) (h : Nums w a la ca ns) (h' : Nums w b lb cb rs) (hn : IsN ns n) (hr : IsN rs r) (hm : mayN n = true) (hrn : r < n) :
    Calls Tryz.prog 55 #[.slice a la ca, .slice b lb cb] w fun e w' => NumQT (r ^ n % (n * n)) w e w' := by
  obtain ⟨n1, n2, n3⟩ := (mayN_iff n).1 hm
  have hsq : r < n * n := Nat.lt_of_lt_of_le hrn (Nat.le_mul_of_pos_left n (by omega))
  have HP := (show Hid _ from ppower_any _ _ _ _ _ _ _ _ _ _ _ _ n r n _ h h' h hn hr hn hm hsq (two_len hn n3))
  clear h h' hn hr hm hsq n1 n2 n3
  go_enter Tryz.func55, Tryz.ntmps55
  go_wp2_with fail
  refine Calls.mono HP.out ?_
  rintro e w1 ⟨pa, pl, pc, ps, rfl, hP, hp, hb1⟩
  have HI : Hid (IsN ps (r ^ n % (n * n))) := hp
  clear hp HP
  go_wp2
  go_ret
  exact ⟨pa, pl, pc, ps, rfl, hP, HI.out, hb1⟩
end Go.Proofs.YtnbdbahfekneoaaGreat

namespace Go.Proofs.YtnbdbahfekneoaaGreat
open Go.RowKit

theorem bit_odd {ns : List Int} (hd : Digs 18446744073709551616 ns) (hr : rightB ns = true) : bitB ns 0 = decide (nv ns % 2 = 1) := by
  have h := nv_odd hd
  unfold bitB
  rw [hr]
  cases ns with
  | nil => simp [nv, val]
  | cons x r =>
    simp at h ⊢
    omega

set_option maxRecDepth 20000 in
set_option maxHeartbeats 1600000 in
theorem may_ok6 : MayOk := by
  intro a la ca ns w h
  have HR := (show Hid _ from right_any _ _ _ _ _ h)
  have HB := (show Hid _ from bits_any _ _ _ _ _ h)
  have HD := (show Hid _ from bit_any _ _ _ _ 0 _ h (by decide))
  obtain ⟨z, hz⟩ : ∃ z, z = bitsZ ns := ⟨_, rfl⟩
  rw [← hz] at HB
  cases hr : rightB ns with
  | false =>
    rw [hr] at HR
    have HE : Hid (pubB ns = false) := by show _ = _; simp [pubB, hr]
    clear h hz HB HD
    go_enter Tryz.func48, Tryz.ntmps48
    go_wp2_with fail
    refine Calls.mono HR.out ?_
    rintro e w1 ⟨rfl, rfl⟩
    clear HR
    go_wp2
    go_ret
    exact ⟨ret_bool HE.out.symm, Below.refl _ _⟩
  | true =>
    rw [hr] at HR
    rw [bit_odd h.digs hr] at HD
    have h15 := bits_15 h.digs hr
    have h80 := bits_80 h.digs hr
    rw [← hz] at h15 h80
    have HE : Hid (pubB ns = (decide (nv ns % 2 = 1) && (decide ((15 : Int) ≤ z) && decide (z ≤ (80 : Int))))) := by
      show _ = _
      have e2 : decide ((15 : Int) ≤ z) = decide (16384 ≤ nv ns) := by rw [decide_eq_decide]; exact h15
      have e3 : decide (z ≤ (80 : Int)) = decide (nv ns < 1208925819614629174706176) := by rw [decide_eq_decide]; exact h80
      rw [e2, e3]
      simp [pubB, mayN, hr]
    obtain ⟨o, ho⟩ : ∃ o, o = decide (nv ns % 2 = 1) := ⟨_, rfl⟩
    rw [← ho] at HE HD
    clear h hz h15 h80 ho
    cases o with
    | false =>
      have HT : Hid (pubB ns = false) := by show _ = _; rw [HE.out]; rfl
      clear HE HB
      go_enter Tryz.func48, Tryz.ntmps48
      go_wp2_with fail
      refine Calls.mono HR.out ?_
      rintro e w1 ⟨rfl, rfl⟩
      clear HR
      go_wp2_with fail
      refine Calls.mono HD.out ?_
      rintro e w2 ⟨rfl, rfl⟩
      clear HD
      go_wp2
      go_ret
      exact ⟨ret_bool HT.out.symm, Below.refl _ _⟩
    | true =>
      by_cases c2 : (15 : Int) ≤ z
      · by_cases c3 : z ≤ (80 : Int)
        · have HT : Hid (pubB ns = true) := by show _ = _; rw [HE.out]; simp [c2, c3]
          clear HE
          go_enter Tryz.func48, Tryz.ntmps48
          go_wp2_with fail
          refine Calls.mono HR.out ?_
          rintro e w1 ⟨rfl, rfl⟩
          clear HR
          go_wp2_with fail
          refine Calls.mono HD.out ?_
          rintro e w2 ⟨rfl, rfl⟩
          clear HD
          go_wp2_with fail
          refine Calls.mono HB.out ?_
          rintro e w3 ⟨rfl, rfl⟩
          go_wp2_with fail
          refine Calls.mono HB.out ?_
          rintro e w4 ⟨rfl, rfl⟩
          clear HB
          go_wp2
          go_ret
          exact ⟨ret_bool HT.out.symm, Below.refl _ _⟩
        · have HT : Hid (pubB ns = false) := by show _ = _; rw [HE.out]; simp [c3]
          have d3 : decide (z ≤ (80 : Int)) = false := decide_eq_false c3
          clear HE
          go_enter Tryz.func48, Tryz.ntmps48
          go_wp2_with fail
          refine Calls.mono HR.out ?_
          rintro e w1 ⟨rfl, rfl⟩
          clear HR
          go_wp2_with fail
          refine Calls.mono HD.out ?_
          rintro e w2 ⟨rfl, rfl⟩
          clear HD
          go_wp2_with fail
          refine Calls.mono HB.out ?_
          rintro e w3 ⟨rfl, rfl⟩
          go_wp2_with fail
          refine Calls.mono HB.out ?_
          rintro e w4 ⟨rfl, rfl⟩
          clear HB
          go_wp2
          go_ret
          exact ⟨ret_bool HT.out.symm, Below.refl _ _⟩
      · have HT : Hid (pubB ns = false) := by show _ = _; rw [HE.out]; simp [c2]
        have d2 : decide ((15 : Int) ≤ z) = false := decide_eq_false c2
        clear HE
        go_enter Tryz.func48, Tryz.ntmps48
        go_wp2_with fail
        refine Calls.mono HR.out ?_
        rintro e w1 ⟨rfl, rfl⟩
        clear HR
        go_wp2_with fail
        refine Calls.mono HD.out ?_
        rintro e w2 ⟨rfl, rfl⟩
        clear HD
        go_wp2_with fail
        refine Calls.mono HB.out ?_
        rintro e w3 ⟨rfl, rfl⟩
        clear HB
        go_wp2
        go_ret
        exact ⟨ret_bool HT.out.symm, Below.refl _ _⟩

/-- A number that may be, below a bound. -/
def lessB (cs : List Int) (b : Nat) : Bool := rightB cs && decide (nv cs < b)
theorem cmp_nv6 {xs ys : List Int} (hx : Digs 18446744073709551616 xs) (hy : Digs 18446744073709551616 ys) (rx : rightB xs = true) (ry : rightB ys = true) : cmpN xs ys = cmpZ (nv xs : Int) (nv ys : Int) := by
  unfold cmpN; rw [rx, ry, nv_val hx, nv_val hy]; rfl
theorem cmpZ_lt6 {x y : Nat} : cmpZ (x : Int) (y : Int) < 0 ↔ x < y := by
  unfold cmpZ
  split
  · constructor
    · intro _; omega
    · intro _; decide
  · split
    · constructor
      · intro h; omega
      · intro h; omega
    · constructor
      · intro h; omega
      · intro h; omega
theorem cmpZ_eq6 {x y : Nat} : cmpZ (x : Int) (y : Int) = 0 ↔ x = y := by
  unfold cmpZ
  split
  · constructor
    · intro h; cases h
    · intro h; omega
  · split
    · constructor
      · intro h; cases h
      · intro h; omega
    · constructor
      · intro _; omega
      · intro _; rfl

set_option maxRecDepth 20000 in
set_option maxHeartbeats 800000 in
theorem pbelow_any (a b : Option Addr) (la ca lb cb : Nat) (bs cs : List Int) (n : Nat) (w : World) (h : Nums w a la ca bs) (h' : Nums w b lb cb cs) (hn : IsN bs n) :
    Calls Tryz.prog 49 #[.slice a la ca, .slice b lb cb] w fun e w' => e = .returned (.bool (lessB cs n)) ∧ Below w.heap.size w w' := by
  have HR := (show Hid _ from right_any _ _ _ _ _ h')
  cases hr : rightB cs with
  | false =>
    rw [hr] at HR
    have HE : Hid (lessB cs n = false) := by show _ = _; simp [lessB, hr]
    clear h h'
    go_enter Tryz.func49, Tryz.ntmps49
    go_wp2_with fail
    refine Calls.mono HR.out ?_
    rintro e w1 ⟨rfl, rfl⟩
    clear HR
    go_wp2
    go_ret
    exact ⟨ret_bool HE.out.symm, Below.refl _ _⟩
  | true =>
    rw [hr] at HR
    have HC := (show Hid _ from cmp_any _ _ _ _ _ _ _ _ _ h' h)
    rw [cmp_nv6 h'.digs h.digs hr hn.2.1, hn.nv] at HC
    have HE : Hid (decide (cmpZ (nv cs : Int) (n : Int) < 0) = lessB cs n) := by
      show _ = _
      simp only [lessB, hr, Bool.true_and]
      rw [decide_eq_decide]
      exact cmpZ_lt6
    obtain ⟨q, hq⟩ : ∃ q, q = cmpZ (nv cs : Int) (n : Int) := ⟨_, rfl⟩
    rw [← hq] at HC HE
    clear h h' hq hn
    go_enter Tryz.func49, Tryz.ntmps49
    go_wp2_with fail
    refine Calls.mono HR.out ?_
    rintro e w1 ⟨rfl, rfl⟩
    clear HR
    go_wp2_with fail
    refine Calls.mono HC.out ?_
    rintro e w2 ⟨rfl, hb2⟩
    clear HC
    go_wp2
    go_ret
    exact ⟨ret_bool HE.out, hb2⟩

theorem sgcd_any (a b : Option Addr) (la ca lb cb : Nat) (xs ys : List Int) (x y : Nat) (w : World) (h : Nums w a la ca xs) (h' : Nums w b lb cb ys) (hx : IsN xs x) (hy : IsN ys y) :
    Calls Tryz.prog 14 #[.func (.func 84) #[] #[], .slice a la ca, .slice b lb cb] w fun e w' => NumQT (Nat.gcd x y) w e w' := by
  refine sure_any _ (fun ls => IsN ls (Nat.gcd x y)) _ _ _ _ _ _ _ Tryz.call84 ?_
  refine (gcd_any _ _ _ _ _ _ _ _ _ h h').mono ?_
  rintro e w' ⟨a', n, c', ls, err, rfl, hL, hR, hb⟩
  unfold ResGcd at hR
  rw [hx.2.1, hy.2.1, if_pos (by rfl), hx.2.2, hy.2.2] at hR
  refine ⟨a', n, c', ls, err, rfl, hL, ⟨hR.2.1, hR.2.2.1, hR.2.2.2.trans ?_⟩, hb⟩
  unfold gz
  rw [Int.toNat_natCast, Int.toNat_natCast]

set_option maxRecDepth 20000 in
set_option maxHeartbeats 800000 in
theorem papart_any (a b : Option Addr) (la ca lb cb : Nat) (ns cs : List Int) (n c : Nat) (w : World) (h : Nums w a la ca ns) (h' : Nums w b lb cb cs) (hn : IsN ns n) (hc : IsN cs c) :
    Calls Tryz.prog 96 #[.slice a la ca, .slice b lb cb] w fun e w' => e = .returned (.bool (decide (Nat.gcd c n = 1))) ∧ Below w.heap.size w w' := by
  have HG := (show Hid _ from sgcd_any _ _ _ _ _ _ _ _ _ _ _ h' h hc hn)
  clear h h' hn hc
  go_enter Tryz.func96, Tryz.ntmps96
  go_wp2_with fail
  refine Calls.mono HG.out ?_
  rintro e w1 ⟨ga, gl, gc, gs, rfl, hG, hg, hb1⟩
  clear HG
  go_wp2_with fail
  refine (of_any 1 _ (by omega)).mono ?_
  rintro e w2 ⟨oa, ol, oc, rfl, hO, hb2⟩
  have hG2 := hG.below hb2
  have hB2 := hb1.trans (hb2.mono hb1.size)
  have HC := (show Hid _ from cmp_any _ _ _ _ _ _ _ _ _ hG2 hO)
  rw [cmp_nv6 hG2.digs hO.digs hg.2.1 isN_one6.2.1, hg.nv, isN_one6.nv] at HC
  have HZ : Hid ((cmpZ ((Nat.gcd c n : Nat) : Int) ((1 : Nat) : Int) == 0) = decide (Nat.gcd c n = 1)) := by
    show _ = _
    by_cases e : Nat.gcd c n = 1
    · rw [decide_eq_true e, cmpZ_eq6.2 e]; rfl
    · rw [decide_eq_false e]
      have : ¬ cmpZ ((Nat.gcd c n : Nat) : Int) ((1 : Nat) : Int) = 0 := fun h => e (cmpZ_eq6.1 h)
      simpa using this
  obtain ⟨q2, hq2⟩ : ∃ q2, q2 = cmpZ ((Nat.gcd c n : Nat) : Int) ((1 : Nat) : Int) := ⟨_, rfl⟩
  rw [← hq2] at HC HZ
  clear hG hG2 hO hb1 hb2 hg hq2
  go_wp2_with fail
  refine Calls.mono HC.out ?_
  rintro e w3 ⟨rfl, hb3⟩
  have hB3 := hB2.trans (hb3.mono hB2.size)
  clear HC hB2 hb3
  go_wp2
  go_ret
  exact ⟨ret_bool HZ.out, hB3⟩

theorem unit_of {cs ns : List Int} {n b : Nat} (hn : IsN ns n) (h2 : 2 ≤ n) (hl : lessB cs b = true) : unitB cs ns b = decide (Nat.gcd (nv cs) n = 1) := by
  unfold lessB at hl
  rw [Bool.and_eq_true, decide_eq_true_eq] at hl
  unfold unitB unitN
  rw [hl.1, hn.nv, decide_eq_true hl.2]
  rcases Nat.eq_zero_or_pos (nv cs) with e | e
  · have h0 : ¬ Nat.gcd (nv cs) n = 1 := by rw [e, Nat.gcd_zero_left]; omega
    rw [decide_eq_false h0]
    simp
  · rw [decide_eq_true e]; rfl
theorem unit_not {cs ns : List Int} {b : Nat} (hl : lessB cs b = false) : unitB cs ns b = false := by
  unfold lessB at hl
  unfold unitB unitN
  cases hr : rightB cs with
  | false => rfl
  | true =>
    rw [hr, Bool.true_and] at hl
    rw [hl]
    simp

set_option maxRecDepth 20000 in
set_option maxHeartbeats 800000 in
theorem phider_any (a b : Option Addr) (la ca lb cb : Nat) (ns cs : List Int) (n : Nat) (w : World) (h : Nums w a la ca ns) (h' : Nums w b lb cb cs) (hn : IsN ns n) (h2 : 2 ≤ n) :
    Calls Tryz.prog 51 #[.slice a la ca, .slice b lb cb] w fun e w' => e = .returned (.bool (unitB cs ns n)) ∧ Below w.heap.size w w' := by
  have HL := (show Hid _ from pbelow_any _ _ _ _ _ _ _ _ _ _ h h' hn)
  cases hl : lessB cs n with
  | false =>
    rw [hl] at HL
    have HE : Hid (unitB cs ns n = false) := unit_not hl
    clear h h' hn hl h2
    go_enter Tryz.func51, Tryz.ntmps51
    go_wp2_with fail
    refine Calls.mono HL.out ?_
    rintro e w1 ⟨rfl, hb1⟩
    clear HL
    go_wp2
    go_ret
    exact ⟨ret_bool HE.out.symm, hb1⟩
  | true =>
    rw [hl] at HL
    have HE : Hid (unitB cs ns n = decide (Nat.gcd (nv cs) n = 1)) := unit_of hn h2 hl
    have hc : IsN cs (nv cs) := IsN.self h'.digs (by unfold lessB at hl; rw [Bool.and_eq_true] at hl; exact hl.1)
    have HA : Hid (∀ wx, Nums wx a la ca ns → Nums wx b lb cb cs → Calls Tryz.prog 96 #[.slice a la ca, .slice b lb cb] wx fun e w' => e = .returned (.bool (unitB cs ns n)) ∧ Below wx.heap.size wx w') := fun wx k k' => by
      have := papart_any _ _ _ _ _ _ _ _ _ _ _ k k' hn hc
      rw [← HE.out] at this
      exact this
    clear hl hn hc h2 HE
    go_enter Tryz.func51, Tryz.ntmps51
    go_wp2_with fail
    refine Calls.mono HL.out ?_
    rintro e w1 ⟨rfl, hb1⟩
    have k := h.below hb1
    have k' := h'.below hb1
    clear HL h h'
    go_wp2_with fail
    refine (HA.out _ k k').mono ?_
    rintro e w2 ⟨rfl, hb2⟩
    have hB2 := hb1.trans (hb2.mono hb1.size)
    clear HA k k' hb1 hb2
    go_wp2
    go_ret
    exact ⟨rfl, hB2⟩

set_option maxRecDepth 20000 in
set_option maxHeartbeats 800000 in
theorem pcipher_any (a b : Option Addr) (la ca lb cb : Nat) (ns cs : List Int) (n : Nat) (w : World) (h : Nums w a la ca ns) (h' : Nums w b lb cb cs) (hn : IsN ns n) (h2 : 2 ≤ n) (hm : n < 1208925819614629174706176) :
    Calls Tryz.prog 74 #[.slice a la ca, .slice b lb cb] w fun e w' => e = .returned (.bool (unitB cs ns (n * n))) ∧ Below w.heap.size w w' := by
  have HS := (show Hid _ from psquare_any _ _ _ _ _ _ h hn hm)
  go_enter Tryz.func74, Tryz.ntmps74
  go_wp2_with fail
  refine Calls.mono HS.out ?_
  rintro e w1 ⟨sa, sl, sc, ss, rfl, hS, hs, hb1⟩
  have k := h.below hb1
  have k' := h'.below hb1
  clear HS h h'
  have HL := (show Hid _ from pbelow_any _ _ _ _ _ _ _ _ _ _ hS k' hs)
  cases hl : lessB cs (n * n) with
  | false =>
    rw [hl] at HL
    have HE : Hid (unitB cs ns (n * n) = false) := unit_not hl
    clear k k' hS hs hn hl h2
    go_wp2_with fail
    refine Calls.mono HL.out ?_
    rintro e w2 ⟨rfl, hb2⟩
    have hB2 := hb1.trans (hb2.mono hb1.size)
    clear HL hb1 hb2
    go_wp2
    go_ret
    exact ⟨ret_bool HE.out.symm, hB2⟩
  | true =>
    rw [hl] at HL
    have HE : Hid (unitB cs ns (n * n) = decide (Nat.gcd (nv cs) n = 1)) := unit_of hn h2 hl
    have hc : IsN cs (nv cs) := IsN.self k'.digs (by unfold lessB at hl; rw [Bool.and_eq_true] at hl; exact hl.1)
    have HA : Hid (∀ wx, Nums wx a la ca ns → Nums wx b lb cb cs → Calls Tryz.prog 96 #[.slice a la ca, .slice b lb cb] wx fun e w' => e = .returned (.bool (unitB cs ns (n * n))) ∧ Below wx.heap.size wx w') := fun wx k k' => by
      have := papart_any _ _ _ _ _ _ _ _ _ _ _ k k' hn hc
      rw [← HE.out] at this
      exact this
    clear hl hn hc h2 HE hS hs
    go_wp2_with fail
    refine Calls.mono HL.out ?_
    rintro e w2 ⟨rfl, hb2⟩
    have hB2 := hb1.trans (hb2.mono hb1.size)
    have m := k.below hb2
    have m' := k'.below hb2
    clear HL k k' hb1 hb2
    go_wp2_with fail
    refine (HA.out _ m m').mono ?_
    rintro e w3 ⟨rfl, hb3⟩
    have hB3 := hB2.trans (hb3.mono hB2.size)
    clear HA m m' hB2 hb3
    go_wp2
    go_ret
    exact ⟨rfl, hB3⟩
end Go.Proofs.YtnbdbahfekneoaaGreat

namespace Go.Proofs.YtnbdbahfekneoaaGreat
open Go.RowKit

set_option maxRecDepth 20000 in
set_option maxHeartbeats 400000 in
theorem mkcipher_any (a : Option Addr) (la ca : Nat) (w : World) :
    Calls Tryz.prog 37 #[.slice a la ca] w fun e w' => e = .returned (.agg #[.slice a la ca, .func (.func 74) #[] #[], .int .i64 11]) ∧ Below w.heap.size w w' := by
  go_enter Tryz.func37, Tryz.ntmps37
  go_wp2
  refine bodyPost_ret (v := .agg #[.slice a la ca, .func (.func 74) #[] #[], .int .i64 11]) (by simp [results, Tryz.results37, go_sem]) rfl ⟨rfl, ?_⟩
  exact (Below.refl w.heap.size w).alloc (Nat.le_refl _) _

set_option maxRecDepth 20000 in
set_option maxHeartbeats 400000 in
theorem mkplain_any (a : Option Addr) (la ca : Nat) (w : World) :
    Calls Tryz.prog 19 #[.slice a la ca] w fun e w' => e = .returned (.agg #[.slice a la ca, .func (.func 49) #[] #[], .int .i64 10]) ∧ Below w.heap.size w w' := by
  go_enter Tryz.func19, Tryz.ntmps19
  go_wp2
  refine bodyPost_ret (v := .agg #[.slice a la ca, .func (.func 49) #[] #[], .int .i64 10]) (by simp [results, Tryz.results19, go_sem]) rfl ⟨rfl, ?_⟩
  exact (Below.refl w.heap.size w).alloc (Nat.le_refl _) _

set_option maxRecDepth 20000 in
set_option maxHeartbeats 400000 in
theorem mkhider_any (a : Option Addr) (la ca : Nat) (w : World) :
    Calls Tryz.prog 52 #[.slice a la ca] w fun e w' => e = .returned (.agg #[.slice a la ca, .func (.func 51) #[] #[], .int .i64 1]) ∧ Below w.heap.size w w' := by
  go_enter Tryz.func52, Tryz.ntmps52
  go_wp2
  refine bodyPost_ret (v := .agg #[.slice a la ca, .func (.func 51) #[] #[], .int .i64 1]) (by simp [results, Tryz.results52, go_sem]) rfl ⟨rfl, ?_⟩
  exact (Below.refl w.heap.size w).alloc (Nat.le_refl _) _

/-- The first fault from the k-th argument on, m arguments left. -/
def firstF (B : Nat → Bool) (X : Nat → Int) : Nat → Nat → Int
  | _, 0 => 0
  | k, m + 1 => if B k then firstF B X (k + 1) m else X k

theorem firstF_on {B : Nat → Bool} {X : Nat → Int} {k m : Nat} (h : B k = true) (hm : k < m) : firstF B X k (m - k) = firstF B X (k + 1) (m - (k + 1)) := by
  have e : m - k = (m - (k + 1)) + 1 := by omega
  rw [e, firstF, h, if_pos rfl]
theorem firstF_off {B : Nat → Bool} {X : Nat → Int} {k m : Nat} (h : B k = false) (hm : k < m) : firstF B X k (m - k) = X k := by
  have e : m - k = (m - (k + 1)) + 1 := by omega
  rw [e, firstF, h]
  rfl

set_option maxRecDepth 20000 in
set_option maxHeartbeats 1600000 in
theorem faultOf_any (na : Option Addr) (nl nc : Nat) (b n : Nat) (A : Nat → Option Addr) (Ln Cn F : Nat → Nat) (X : Nat → Int) (B : Nat → Bool) (w : World) (hn : n ≤ 1000)
    (hm : Calls Tryz.prog 48 #[.slice na nl nc] w fun e w' => e = .returned (.bool true) ∧ Below w.heap.size w w')
    (hc : ∀ k, k < n → w.cell? ⟨b, k * 3, none⟩ = some (.slice (A k) (Ln k) (Cn k)) ∧ w.cell? ⟨b, k * 3 + 1, none⟩ = some (.func (.func (F k)) #[] #[]) ∧ w.cell? ⟨b, k * 3 + 2, none⟩ = some (.int .i64 (X k)))
    (hE : ∀ k, k < n → ∀ (args : Array Value) (w : World), (callFunc (F k) args).run Tryz.prog w = .ok (.enter (F k) args) w)
    (hf : ∀ k, k < n → ∀ wx, Below w.heap.size w wx → Calls Tryz.prog (F k) #[.slice na nl nc, .slice (A k) (Ln k) (Cn k)] wx fun e w' => e = .returned (.bool (B k)) ∧ Below wx.heap.size wx w') :
    Calls Tryz.prog 18 #[.slice na nl nc, .slice (some ⟨b, 0, none⟩) n n] w fun e w' => e = .returned (.int .i64 (firstF B X 0 n)) ∧ Below w.heap.size w w' := by
  have HC : Hid (∀ k, k < n → w.cell? ⟨b, k * 3, none⟩ = some (.slice (A k) (Ln k) (Cn k)) ∧ w.cell? ⟨b, k * 3 + 1, none⟩ = some (.func (.func (F k)) #[] #[]) ∧ w.cell? ⟨b, k * 3 + 2, none⟩ = some (.int .i64 (X k))) := hc
  have HF : Hid (∀ k, k < n → ∀ wx, Below w.heap.size w wx → Calls Tryz.prog (F k) #[.slice na nl nc, .slice (A k) (Ln k) (Cn k)] wx fun e w' => e = .returned (.bool (B k)) ∧ Below wx.heap.size wx w') := hf
  have HM := (show Hid _ from hm)
  have HEn : Hid (∀ k, k < n → ∀ (args : Array Value) (w : World), (callFunc (F k) args).run Tryz.prog w = .ok (.enter (F k) args) w) := hE
  clear hc hf hm hE
  go_enter Tryz.func18, Tryz.ntmps18
  go_wp2_with fail
  refine Calls.mono HM.out ?_
  rintro e w1 ⟨rfl, hb1⟩
  clear HM
  go_wp2
  go_loopw [12] (fun iv wr => ∃ k : Nat, k ≤ n ∧ iv = .int .i64 k ∧ Hid (firstF B X 0 n = firstF B X k (n - k)) ∧ Below w.heap.size w wr) (fun iv _ => n - (intOf iv).toNat)
  case atStart => exact ⟨0, Nat.zero_le _, rfl, (rfl : firstF B X 0 n = firstF B X 0 (n - 0)), hb1⟩
  case round =>
    clear hb1
    obtain ⟨k, hk, rfl, HE, hbr⟩ := hrel
    by_cases hlt : k < n
    · have hlti : (k : Int) < (n : Int) := by omega
      obtain ⟨e0, e1, e2⟩ := HC.out k hlt
      have c0 := (hbr.cell (World.block_lt_of_cell? _ _ e0)).trans e0
      have c1 := (hbr.cell (World.block_lt_of_cell? _ _ e1)).trans e1
      have c2 := (hbr.cell (World.block_lt_of_cell? _ _ e2)).trans e2
      have hEk := HEn.out k hlt
      have hbn := hbr.alloc hbr.size (.cells #[.slice (A k) (Ln k) (Cn k), .func (.func (F k)) #[] #[], .int .i64 (X k)] 60)
      have HFk := (show Hid _ from HF.out k hlt _ hbn)
      have d2 : (wr.alloc (.cells #[.slice (A k) (Ln k) (Cn k), .func (.func (F k)) #[] #[], .int .i64 (X k)] 60)).cell? ⟨wr.heap.size, 2, none⟩ = some (.int .i64 (X k)) := by simp
      clear e0 e1 e2
      cases hB : B k with
      | true =>
        rw [hB] at HFk
        have HE2 : Hid (firstF B X 0 n = firstF B X (k + 1) (n - (k + 1))) := HE.out.trans (firstF_on hB hlt)
        clear d2 HE hB
        go_wp2_with fail
        refine Calls.mono HFk.out ?_
        rintro e w3 ⟨rfl, hb3⟩
        have hB3 := hbn.trans (hb3.mono hbn.size)
        clear HFk hbn hb3 c0 c1 c2 hEk hbr
        go_wp2
        go_roundw
        case rel => exact ⟨k + 1, by omega, by go_num, HE2, hB3⟩
        case measure => simp [intOf]; omega
      | false =>
        rw [hB] at HFk
        have HE2 : Hid (firstF B X 0 n = X k) := HE.out.trans (firstF_off hB hlt)
        clear HE hB
        go_wp2_with fail
        refine Calls.mono HFk.out ?_
        rintro e w3 ⟨rfl, hb3⟩
        have hB3 := hbn.trans (hb3.mono hbn.size)
        have d3 := (hb3.cell (World.block_lt_of_cell? _ _ d2)).trans d2
        clear HFk hbn hb3 c0 c1 c2 hEk hbr d2
        go_wp2
        go_ret
        exact ⟨by rw [HE2.out]; rfl, hB3⟩
    · have hge : ¬ (k : Int) < (n : Int) := by omega
      obtain rfl : k = n := by omega
      go_wp2
      go_ret
      refine ⟨?_, hbr⟩
      rw [HE.out, Nat.sub_self]; rfl

/-- What a test of an argument tells. -/
def KindT (na : Option Addr) (nl nc : Nat) (ns : List Int) (F : Nat) (T : List Int → Bool) : Prop :=
  (∀ (args : Array Value) (w : World), (callFunc F args).run Tryz.prog w = .ok (.enter F args) w) ∧ ∀ (a : Option Addr) (l c : Nat) (cs : List Int) (wx : World), Nums wx na nl nc ns → Nums wx a l c cs → Calls Tryz.prog F #[.slice na nl nc, .slice a l c] wx fun e w' => e = .returned (.bool (T cs)) ∧ Below wx.heap.size wx w'

set_option maxRecDepth 20000 in
set_option maxHeartbeats 400000 in
theorem faultOf_bad (na : Option Addr) (nl nc : Nat) (g : Option Addr) (n c : Nat) (w : World)
    (hm : Calls Tryz.prog 48 #[.slice na nl nc] w fun e w' => e = .returned (.bool false) ∧ Below w.heap.size w w') :
    Calls Tryz.prog 18 #[.slice na nl nc, .slice g n c] w fun e w' => e = .returned (.int .i64 1) ∧ Below w.heap.size w w' := by
  have HM := (show Hid _ from hm)
  clear hm
  go_enter Tryz.func18, Tryz.ntmps18
  go_wp2_with fail
  refine Calls.mono HM.out ?_
  rintro e w1 ⟨rfl, hb1⟩
  clear HM
  go_wp2
  go_ret
  exact ⟨rfl, hb1⟩

theorem fault1_any (na : Option Addr) (nl nc : Nat) (ns : List Int) (F0 : Nat) (X0 : Int) (T0 : List Int → Bool) (a0 : Option Addr) (l0 c0 : Nat) (z0 : List Int) (w : World)
    (h : Nums w na nl nc ns) (h0 : Nums w a0 l0 c0 z0) (k0 : pubB ns = true → KindT na nl nc ns F0 T0) :
    Calls Tryz.prog 18 #[.slice na nl nc, .slice (some ⟨w.heap.size, 0, none⟩) 1 1] (w.alloc (.cells #[.slice a0 l0 c0, .func (.func F0) #[] #[], .int .i64 X0] 60))
      fun e w' => e = .returned (.int .i64 (if pubB ns then (if T0 z0 then 0 else X0) else 1)) ∧ Below w.heap.size w w' := by
  have hb := (Below.refl w.heap.size w).alloc (Nat.le_refl _) (.cells #[.slice a0 l0 c0, .func (.func F0) #[] #[], .int .i64 X0] 60)
  have hM := may_ok6 _ _ _ _ _ (h.below hb)
  cases hp : pubB ns with
  | false =>
    rw [hp] at hM
    refine (faultOf_bad _ _ _ _ _ _ _ hM).mono ?_
    rintro e w' ⟨rfl, hb'⟩
    exact ⟨rfl, hb.trans (hb'.mono hb.size)⟩
  | true =>
    rw [hp] at hM
    obtain ⟨e0, t0⟩ := k0 hp
    refine (faultOf_any na nl nc w.heap.size 1 (fun _ => a0) (fun _ => l0) (fun _ => c0) (fun _ => F0) (fun _ => X0) (fun _ => T0 z0) _ (by decide) hM ?_ (fun k _ => e0) ?_).mono ?_
    · intro k hk
      obtain rfl : k = 0 := by omega
      exact ⟨by simp, by simp, by simp⟩
    · intro k hk wx hbx
      have hbb := hb.trans (hbx.mono hb.size)
      exact t0 _ _ _ _ _ (h.below hbb) (h0.below hbb)
    · rintro e w' ⟨rfl, hb'⟩
      refine ⟨?_, hb.trans (hb'.mono hb.size)⟩
      simp only [firstF]
      rfl

theorem fault2_any (na : Option Addr) (nl nc : Nat) (ns : List Int) (F0 : Nat) (X0 : Int) (T0 : List Int → Bool) (F1 : Nat) (X1 : Int) (T1 : List Int → Bool) (a0 : Option Addr) (l0 c0 : Nat) (z0 : List Int) (a1 : Option Addr) (l1 c1 : Nat) (z1 : List Int) (w : World)
    (h : Nums w na nl nc ns) (h0 : Nums w a0 l0 c0 z0) (h1 : Nums w a1 l1 c1 z1) (k0 : pubB ns = true → KindT na nl nc ns F0 T0) (k1 : pubB ns = true → KindT na nl nc ns F1 T1) :
    Calls Tryz.prog 18 #[.slice na nl nc, .slice (some ⟨w.heap.size, 0, none⟩) 2 2] (w.alloc (.cells #[.slice a0 l0 c0, .func (.func F0) #[] #[], .int .i64 X0, .slice a1 l1 c1, .func (.func F1) #[] #[], .int .i64 X1] 60))
      fun e w' => e = .returned (.int .i64 (if pubB ns then (if T0 z0 then (if T1 z1 then 0 else X1) else X0) else 1)) ∧ Below w.heap.size w w' := by
  have hb := (Below.refl w.heap.size w).alloc (Nat.le_refl _) (.cells #[.slice a0 l0 c0, .func (.func F0) #[] #[], .int .i64 X0, .slice a1 l1 c1, .func (.func F1) #[] #[], .int .i64 X1] 60)
  have hM := may_ok6 _ _ _ _ _ (h.below hb)
  cases hp : pubB ns with
  | false =>
    rw [hp] at hM
    refine (faultOf_bad _ _ _ _ _ _ _ hM).mono ?_
    rintro e w' ⟨rfl, hb'⟩
    exact ⟨rfl, hb.trans (hb'.mono hb.size)⟩
  | true =>
    rw [hp] at hM
    obtain ⟨e0, t0⟩ := k0 hp
    obtain ⟨e1, t1⟩ := k1 hp
    refine (faultOf_any na nl nc w.heap.size 2 (fun k => if k = 0 then a0 else a1) (fun k => if k = 0 then l0 else l1) (fun k => if k = 0 then c0 else c1) (fun k => if k = 0 then F0 else F1) (fun k => if k = 0 then X0 else X1) (fun k => if k = 0 then T0 z0 else T1 z1) _ (by decide) hM ?_ ?_ ?_).mono ?_
    · intro k hk
      have : k = 0 ∨ k = 1 := by omega
      rcases this with rfl | rfl
      · exact ⟨by simp, by simp, by simp⟩
      · exact ⟨by simp, by simp, by simp⟩
    · intro k hk
      have : k = 0 ∨ k = 1 := by omega
      rcases this with rfl | rfl
      · exact e0
      · exact e1
    · intro k hk wx hbx
      have hbb := hb.trans (hbx.mono hb.size)
      have : k = 0 ∨ k = 1 := by omega
      rcases this with rfl | rfl
      · exact t0 _ _ _ _ _ (h.below hbb) (h0.below hbb)
      · exact t1 _ _ _ _ _ (h.below hbb) (h1.below hbb)
    · rintro e w' ⟨rfl, hb'⟩
      refine ⟨?_, hb.trans (hb'.mono hb.size)⟩
      simp only [firstF]
      rfl
end Go.Proofs.YtnbdbahfekneoaaGreat

namespace Go.Proofs.YtnbdbahfekneoaaGreat
open Go.RowKit

/-- The fault that faultOf tells. -/
def fault2 (ns : List Int) (b0 : Bool) (x0 : Int) (b1 : Bool) (x1 : Int) : Int := if pubB ns then (if b0 then (if b1 then 0 else x1) else x0) else 1

theorem kind_plain {na : Option Addr} {nl nc : Nat} {ns : List Int} (hp : pubB ns = true) (hd : Digs 18446744073709551616 ns) : KindT na nl nc ns 49 (plainB ns) := by
  refine ⟨Tryz.call49, ?_⟩
  intro a l c cs wx h h'
  have rn := ((pubB_iff ns).1 hp).1
  refine (pbelow_any _ _ _ _ _ _ _ _ _ _ h h' (IsN.self hd rn)).mono ?_
  rintro e w' ⟨rfl, hb⟩
  exact ⟨rfl, hb⟩
theorem kind_hider {na : Option Addr} {nl nc : Nat} {ns : List Int} (hp : pubB ns = true) (hd : Digs 18446744073709551616 ns) : KindT na nl nc ns 51 (fun rs => unitB rs ns (nv ns)) := by
  refine ⟨Tryz.call51, ?_⟩
  intro a l c cs wx h h'
  obtain ⟨rn, n1, n2, n3⟩ := (pubB_iff ns).1 hp
  exact phider_any _ _ _ _ _ _ _ _ _ _ h h' (IsN.self hd rn) (by omega)
theorem kind_cipher {na : Option Addr} {nl nc : Nat} {ns : List Int} (hp : pubB ns = true) (hd : Digs 18446744073709551616 ns) : KindT na nl nc ns 74 (fun cs => validB ns cs) := by
  refine ⟨Tryz.call74, ?_⟩
  intro a l c cs wx h h'
  obtain ⟨rn, n1, n2, n3⟩ := (pubB_iff ns).1 hp
  refine (pcipher_any _ _ _ _ _ _ _ _ _ _ h h' (IsN.self hd rn) (by omega) n3).mono ?_
  rintro e w' ⟨rfl, hb⟩
  exact ⟨by simp [validB, hp], hb⟩

theorem big_prod {x y n : Nat} (hx : x < n * n) (hy : y < n * n) (hn : n < 1208925819614629174706176) : ((x * y : Nat) : Int) < 18446744073709551616 ^ 64 := by
  have h1 := sq_bd3 hn
  have h2 : x * y ≤ (n * n) * (n * n) := Nat.mul_le_mul (by omega) (by omega)
  have h3 : ((n * n * (n * n) : Nat) : Int) ≤ 18446744073709551616 ^ 3 * 18446744073709551616 ^ 3 := by
    rw [Int.natCast_mul]
    exact Int.mul_le_mul (by omega) (by omega) (by omega) (by decide)
  have h4 : (18446744073709551616 : Int) ^ 3 * 18446744073709551616 ^ 3 < 18446744073709551616 ^ 64 := by decide
  omega
theorem bare_lt {n m : Nat} (h : 16384 ≤ n) (hm : m < n) : 1 + n * m < n * n := by
  have h1 := Nat.mul_le_mul (Nat.le_refl n) (show m + 1 ≤ n by omega)
  rw [Nat.mul_add, Nat.mul_one] at h1
  omega

/-- A fault, or none. -/
theorem encQ_split (ns ms rs : List Int) : (fault2 ns (plainB ns ms) 10 (unitB rs ns (nv ns)) 1 = 0 ∧ pubB ns = true ∧ plainB ns ms = true ∧ unitB rs ns (nv ns) = true ∧ encF ns ms rs = none) ∨
    (fault2 ns (plainB ns ms) 10 (unitB rs ns (nv ns)) 1 ≠ 0 ∧ encF ns ms rs = some (fault2 ns (plainB ns ms) 10 (unitB rs ns (nv ns)) 1)) := by
  unfold fault2 encF
  cases pubB ns <;> cases plainB ns ms <;> cases unitB rs ns (nv ns) <;> simp
theorem add_split (ns cs ds : List Int) : (fault2 ns (validB ns cs) 11 (validB ns ds) 11 = 0 ∧ pubB ns = true ∧ validB ns cs = true ∧ validB ns ds = true ∧ addF ns cs ds = none) ∨
    (fault2 ns (validB ns cs) 11 (validB ns ds) 11 ≠ 0 ∧ addF ns cs ds = some (fault2 ns (validB ns cs) 11 (validB ns ds) 11)) := by
  unfold fault2 addF
  cases pubB ns <;> cases validB ns cs <;> cases validB ns ds <;> simp
theorem plain_split (ns cs ms : List Int) : (fault2 ns (validB ns cs) 11 (plainB ns ms) 10 = 0 ∧ pubB ns = true ∧ validB ns cs = true ∧ plainB ns ms = true ∧ plainF ns cs ms = none) ∨
    (fault2 ns (validB ns cs) 11 (plainB ns ms) 10 ≠ 0 ∧ plainF ns cs ms = some (fault2 ns (validB ns cs) 11 (plainB ns ms) 10)) := by
  unfold fault2 plainF
  cases pubB ns <;> cases validB ns cs <;> cases plainB ns ms <;> simp
theorem again_split (ns cs rs : List Int) : (fault2 ns (validB ns cs) 11 (unitB rs ns (nv ns)) 1 = 0 ∧ pubB ns = true ∧ validB ns cs = true ∧ unitB rs ns (nv ns) = true ∧ againF ns cs rs = none) ∨
    (fault2 ns (validB ns cs) 11 (unitB rs ns (nv ns)) 1 ≠ 0 ∧ againF ns cs rs = some (fault2 ns (validB ns cs) 11 (unitB rs ns (nv ns)) 1)) := by
  unfold fault2 againF
  cases pubB ns <;> cases validB ns cs <;> cases unitB rs ns (nv ns) <;> simp

set_option maxRecDepth 20000 in
set_option maxHeartbeats 3200000 in
theorem enc_ok6 : EncOk := by
  intro a b d la ca lb cb ld cd ns ys zs w h h' hd
  have hdg := h.digs
  go_enter Tryz.func21, Tryz.ntmps21
  go_wp2_with fail
  refine (mkplain_any _ _ _ _).mono ?_
  rintro e w1 ⟨rfl, hb1⟩
  go_wp2_with fail
  refine (mkhider_any _ _ _ _).mono ?_
  rintro e w2 ⟨rfl, hb2⟩
  have hB2 := hb1.trans (hb2.mono hb1.size)
  have k := h.below hB2
  have k' := h'.below hB2
  have kd := hd.below hB2
  have HF := (show Hid _ from fault2_any _ _ _ _ _ 10 _ _ 1 _ _ _ _ _ _ _ _ _ _ k k' kd (fun hp => kind_plain hp hdg) (fun hp => kind_hider hp hdg))
  clear h h' hd hb1 hb2
  go_wp2_with fail
  refine Calls.mono HF.out ?_
  rintro e w3 ⟨rfl, hb3⟩
  have hB3 := hB2.trans (hb3.mono hB2.size)
  have m := k.below hb3
  have m' := k'.below hb3
  have md := kd.below hb3
  have hS := encQ_split ns ys zs
  unfold fault2 at hS
  clear HF k k' kd hB2 hb3
  obtain ⟨x, hx⟩ : ∃ x, x = (if pubB ns then (if plainB ns ys then (if unitB zs ns (nv ns) then (0 : Int) else 1) else 10) else 1) := ⟨_, rfl⟩
  rw [← hx] at hS
  rw [← hx]
  clear hx
  rcases hS with ⟨rfl, hp, h1, h2, hF⟩ | ⟨hne, hF⟩
  · have HF : Hid (encF ns ys zs = none) := hF
    obtain ⟨rn, n1, n2, n3⟩ := (pubB_iff ns).1 hp
    have hn := IsN.self m.digs rn
    have hmN : mayN (nv ns) = true := (mayN_iff _).2 ⟨n1, n2, n3⟩
    obtain ⟨ry, y1⟩ := (plainB_iff ns ys).1 h1
    have hy := IsN.self m'.digs ry
    obtain ⟨rz, z0, z1, z2⟩ := (unitB_iff zs ns _).1 h2
    have hz := IsN.self md.digs rz
    have hpos : 0 < nv ns := by omega
    clear hF hp h1 h2 n1
    have hbl := bare_lt n2 y1
    go_wp2_with fail
    refine (bare_any _ _ _ _ _ _ _ _ _ _ _ m m' hn hy n3 y1).mono ?_
    rintro e w4 ⟨xa, xl, xc, xs, rfl, hX, hx, hb4⟩
    have hB4 := hB3.trans (hb4.mono hB3.size)
    have p := m.below hb4
    have pd := md.below hb4
    clear m m' md hB3 hb4
    go_wp2_with fail
    refine (cover_any _ _ _ _ _ _ _ _ _ _ _ p pd hn hz hmN z1).mono ?_
    rintro e w5 ⟨ua, ul, uc, us, rfl, hU, hu, hb5⟩
    have hB5 := hB4.trans (hb5.mono hB4.size)
    have q := p.below hb5
    have hX5 := hX.below hb5
    clear p pd hX hB4 hb5
    have hul := Nat.mod_lt (nv zs ^ nv ns) (Nat.mul_pos hpos hpos)
    have HV : Hid ((((1 + nv ns * nv ys) * (nv zs ^ nv ns % (nv ns * nv ns)) : Nat) : Int) < 18446744073709551616 ^ 64) := big_prod hbl hul n3
    clear hbl hul
    go_wp2_with fail
    refine (pproduct_any _ _ _ _ _ _ _ _ _ _ _ _ _ _ _ _ q hX5 hU hn hx hu n3 hpos HV.out).mono ?_
    rintro e w6 ⟨ra, rl, rc, rs, rfl, hR, hr, hb6⟩
    have hB6 := hB5.trans (hb6.mono hB5.size)
    have HI : Hid (IsN rs (encV ns ys zs)) := by
      show IsN _ _
      unfold encV
      rw [Nat.mul_mod, Nat.mod_mod, ← Nat.mul_mod] at hr
      exact hr
    clear hr q hX5 hU hn hx hu HV hB5 hb6 hy hz
    go_wp2
    go_ret2
    exact ⟨ra, rl, rc, rs, 0, rfl, hR, Told.good HF.out HI.out, hB6⟩
  · have hz0 : (x == 0) = false := by simpa using hne
    have HT : Hid (Told (encF ns ys zs) (encV ns ys zs) [] x) := Told.bad hF
    clear hF hne m m' md
    go_wp2
    go_ret2
    exact ⟨none, 0, 0, [], x, rfl, Nums.nil _, HT.out, hB3⟩

end Go.Proofs.YtnbdbahfekneoaaGreat
