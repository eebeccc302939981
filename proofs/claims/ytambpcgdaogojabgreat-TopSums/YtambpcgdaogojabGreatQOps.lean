/-
  Contracts of package paillier's Encrypt, Add, Plain, Scale, Again and Valid.
-/
import Derived.Test.YtambpcgdaogojabGreatQFault
namespace Go.Proofs.YtambpcgdaogojabGreat
open Go.RowKit

/-- The fault that faultOf tells. -/
def fault2 (ns : List Int) (b0 : Bool) (x0 : Int) (b1 : Bool) (x1 : Int) : Int := if pubB ns then (if b0 then (if b1 then 0 else x1) else x0) else 1

theorem kind_plain {na : Option Addr} {nl nc : Nat} {ns : List Int} (hp : pubB ns = true) (hd : Digs 18446744073709551616 ns) : KindT na nl nc ns 50 (plainB ns) := by
  refine ⟨Tryz.call50, ?_⟩
  intro a l c cs wx h h'
  have rn := ((pubB_iff ns).1 hp).1
  refine (pbelow_any _ _ _ _ _ _ _ _ _ _ h h' (IsN.self hd rn)).mono ?_
  rintro e w' ⟨rfl, hb⟩
  exact ⟨rfl, hb⟩
theorem kind_hider {na : Option Addr} {nl nc : Nat} {ns : List Int} (hp : pubB ns = true) (hd : Digs 18446744073709551616 ns) : KindT na nl nc ns 52 (fun rs => unitB rs ns (nv ns)) := by
  refine ⟨Tryz.call52, ?_⟩
  intro a l c cs wx h h'
  obtain ⟨rn, n1, n2, n3⟩ := (pubB_iff ns).1 hp
  exact phider_any _ _ _ _ _ _ _ _ _ _ h h' (IsN.self hd rn) (by omega)
theorem kind_cipher {na : Option Addr} {nl nc : Nat} {ns : List Int} (hp : pubB ns = true) (hd : Digs 18446744073709551616 ns) : KindT na nl nc ns 56 (fun cs => validB ns cs) := by
  refine ⟨Tryz.call56, ?_⟩
  intro a l c cs wx h h'
  obtain ⟨rn, n1, n2, n3⟩ := (pubB_iff ns).1 hp
  refine (pcipher_any _ _ _ _ _ _ _ _ _ _ h h' (IsN.self hd rn) (by omega) n3).mono ?_
  rintro e w' ⟨rfl, hb⟩
  exact ⟨by simp [validB, hp], hb⟩

theorem big_prod {x y n : Nat} (hx : x < n * n) (hy : y < n * n) (hn : n < 1208925819614629174706176) : ((x * y : Nat) : Int) < 18446744073709551616 ^ 64 := by
  have h1 := sq_bd3 hn
  have h2 : x * y ≤ (n * n) * (n * n) := Nat.mul_le_mul (by omega) (by omega)
  have h3 : ((n * n * (n * n) : Nat) : Int) ≤ 18446744073709551616 ^ 3 * 18446744073709551616 ^ 3 := by
    rw [Int.natCast_mul]
    exact Int.mul_le_mul (by omega) (by omega) (by omega) (by decide)
  have h4 : (18446744073709551616 : Int) ^ 3 * 18446744073709551616 ^ 3 < 18446744073709551616 ^ 64 := by decide
  omega
theorem bare_lt {n m : Nat} (h : 16384 ≤ n) (hm : m < n) : 1 + n * m < n * n := by
  have h1 := Nat.mul_le_mul (Nat.le_refl n) (show m + 1 ≤ n by omega)
  rw [Nat.mul_add, Nat.mul_one] at h1
  omega

/-- A fault, or none. -/
theorem enc_split (ns ms rs : List Int) : (fault2 ns (plainB ns ms) 10 (unitB rs ns (nv ns)) 1 = 0 ∧ pubB ns = true ∧ plainB ns ms = true ∧ unitB rs ns (nv ns) = true ∧ encF ns ms rs = none) ∨
    (fault2 ns (plainB ns ms) 10 (unitB rs ns (nv ns)) 1 ≠ 0 ∧ encF ns ms rs = some (fault2 ns (plainB ns ms) 10 (unitB rs ns (nv ns)) 1)) := by
  unfold fault2 encF
  cases pubB ns <;> cases plainB ns ms <;> cases unitB rs ns (nv ns) <;> simp
theorem add_split (ns cs ds : List Int) : (fault2 ns (validB ns cs) 11 (validB ns ds) 11 = 0 ∧ pubB ns = true ∧ validB ns cs = true ∧ validB ns ds = true ∧ addF ns cs ds = none) ∨
    (fault2 ns (validB ns cs) 11 (validB ns ds) 11 ≠ 0 ∧ addF ns cs ds = some (fault2 ns (validB ns cs) 11 (validB ns ds) 11)) := by
  unfold fault2 addF
  cases pubB ns <;> cases validB ns cs <;> cases validB ns ds <;> simp
theorem plain_split (ns cs ms : List Int) : (fault2 ns (validB ns cs) 11 (plainB ns ms) 10 = 0 ∧ pubB ns = true ∧ validB ns cs = true ∧ plainB ns ms = true ∧ plainF ns cs ms = none) ∨
    (fault2 ns (validB ns cs) 11 (plainB ns ms) 10 ≠ 0 ∧ plainF ns cs ms = some (fault2 ns (validB ns cs) 11 (plainB ns ms) 10)) := by
  unfold fault2 plainF
  cases pubB ns <;> cases validB ns cs <;> cases plainB ns ms <;> simp
theorem again_split (ns cs rs : List Int) : (fault2 ns (validB ns cs) 11 (unitB rs ns (nv ns)) 1 = 0 ∧ pubB ns = true ∧ validB ns cs = true ∧ unitB rs ns (nv ns) = true ∧ againF ns cs rs = none) ∨
    (fault2 ns (validB ns cs) 11 (unitB rs ns (nv ns)) 1 ≠ 0 ∧ againF ns cs rs = some (fault2 ns (validB ns cs) 11 (unitB rs ns (nv ns)) 1)) := by
  unfold fault2 againF
  cases pubB ns <;> cases validB ns cs <;> cases unitB rs ns (nv ns) <;> simp

set_option maxRecDepth 20000 in
set_option maxHeartbeats 3200000 in
theorem enc_ok6 : EncOk := by
  intro a b d la ca lb cb ld cd ns ys zs w h h' hd
  have hdg := h.digs
  go_enter Tryz.func24, Tryz.ntmps24
  go_wp2_with fail
  refine (mkplain_any _ _ _ _).mono ?_
  rintro e w1 ⟨rfl, hb1⟩
  go_wp2_with fail
  refine (mkhider_any _ _ _ _).mono ?_
  rintro e w2 ⟨rfl, hb2⟩
  have hB2 := hb1.trans (hb2.mono hb1.size)
  have k := h.below hB2
  have k' := h'.below hB2
  have kd := hd.below hB2
  have HF := (show Hid _ from fault2_any _ _ _ _ _ 10 _ _ 1 _ _ _ _ _ _ _ _ _ _ k k' kd (fun hp => kind_plain hp hdg) (fun hp => kind_hider hp hdg))
  clear h h' hd hb1 hb2
  go_wp2_with fail
  refine Calls.mono HF.out ?_
  rintro e w3 ⟨rfl, hb3⟩
  have hB3 := hB2.trans (hb3.mono hB2.size)
  have m := k.below hb3
  have m' := k'.below hb3
  have md := kd.below hb3
  have hS := enc_split ns ys zs
  unfold fault2 at hS
  clear HF k k' kd hB2 hb3
  obtain ⟨x, hx⟩ : ∃ x, x = (if pubB ns then (if plainB ns ys then (if unitB zs ns (nv ns) then (0 : Int) else 1) else 10) else 1) := ⟨_, rfl⟩
  rw [← hx] at hS
  rw [← hx]
  clear hx
  rcases hS with ⟨rfl, hp, h1, h2, hF⟩ | ⟨hne, hF⟩
  · have HF : Hid (encF ns ys zs = none) := hF
    obtain ⟨rn, n1, n2, n3⟩ := (pubB_iff ns).1 hp
    have hn := IsN.self m.digs rn
    have hmN : mayN (nv ns) = true := (mayN_iff _).2 ⟨n1, n2, n3⟩
    obtain ⟨ry, y1⟩ := (plainB_iff ns ys).1 h1
    have hy := IsN.self m'.digs ry
    obtain ⟨rz, z0, z1, z2⟩ := (unitB_iff zs ns _).1 h2
    have hz := IsN.self md.digs rz
    have hpos : 0 < nv ns := by omega
    clear hF hp h1 h2 n1
    have hbl := bare_lt n2 y1
    go_wp2_with fail
    refine (bare_any _ _ _ _ _ _ _ _ _ _ _ m m' hn hy n3 y1).mono ?_
    rintro e w4 ⟨xa, xl, xc, xs, rfl, hX, hx, hb4⟩
    have hB4 := hB3.trans (hb4.mono hB3.size)
    have p := m.below hb4
    have pd := md.below hb4
    clear m m' md hB3 hb4
    go_wp2_with fail
    refine (cover_any _ _ _ _ _ _ _ _ _ _ _ p pd hn hz hmN z1).mono ?_
    rintro e w5 ⟨ua, ul, uc, us, rfl, hU, hu, hb5⟩
    have hB5 := hB4.trans (hb5.mono hB4.size)
    have q := p.below hb5
    have hX5 := hX.below hb5
    clear p pd hX hB4 hb5
    have hul := Nat.mod_lt (nv zs ^ nv ns) (Nat.mul_pos hpos hpos)
    have HV : Hid ((((1 + nv ns * nv ys) * (nv zs ^ nv ns % (nv ns * nv ns)) : Nat) : Int) < 18446744073709551616 ^ 64) := big_prod hbl hul n3
    clear hbl hul
    go_wp2_with fail
    refine (pproduct_any _ _ _ _ _ _ _ _ _ _ _ _ _ _ _ _ q hX5 hU hn hx hu n3 hpos HV.out).mono ?_
    rintro e w6 ⟨ra, rl, rc, rs, rfl, hR, hr, hb6⟩
    have hB6 := hB5.trans (hb6.mono hB5.size)
    have HI : Hid (IsN rs (encV ns ys zs)) := by
      show IsN _ _
      unfold encV
      rw [Nat.mul_mod, Nat.mod_mod, ← Nat.mul_mod] at hr
      exact hr
    clear hr q hX5 hU hn hx hu HV hB5 hb6 hy hz
    go_wp2
    go_ret2
    exact ⟨ra, rl, rc, rs, 0, rfl, hR, Told.good HF.out HI.out, hB6⟩
  · have hz0 : (x == 0) = false := by simpa using hne
    have HT : Hid (Told (encF ns ys zs) (encV ns ys zs) [] x) := Told.bad hF
    clear hF hne m m' md
    go_wp2
    go_ret2
    exact ⟨none, 0, 0, [], x, rfl, Nums.nil _, HT.out, hB3⟩

set_option maxRecDepth 20000 in
set_option maxHeartbeats 3200000 in
theorem add_ok6 : AddOk := by
  intro a b d la ca lb cb ld cd ns ys zs w h h' hd
  have hdg := h.digs
  go_enter Tryz.func9, Tryz.ntmps9
  go_wp2_with fail
  refine (mkcipher_any _ _ _ _).mono ?_
  rintro e w1 ⟨rfl, hb1⟩
  go_wp2_with fail
  refine (mkcipher_any _ _ _ _).mono ?_
  rintro e w2 ⟨rfl, hb2⟩
  have hB2 := hb1.trans (hb2.mono hb1.size)
  have k := h.below hB2
  have k' := h'.below hB2
  have kd := hd.below hB2
  have HF := (show Hid _ from fault2_any _ _ _ _ _ 11 _ _ 11 _ _ _ _ _ _ _ _ _ _ k k' kd (fun hp => kind_cipher hp hdg) (fun hp => kind_cipher hp hdg))
  clear h h' hd hb1 hb2
  go_wp2_with fail
  refine Calls.mono HF.out ?_
  rintro e w3 ⟨rfl, hb3⟩
  have hB3 := hB2.trans (hb3.mono hB2.size)
  have m := k.below hb3
  have m' := k'.below hb3
  have md := kd.below hb3
  have hS := add_split ns ys zs
  unfold fault2 at hS
  clear HF k k' kd hB2 hb3
  obtain ⟨x, hx⟩ : ∃ x, x = (if pubB ns then (if validB ns ys then (if validB ns zs then (0 : Int) else 11) else 11) else 1) := ⟨_, rfl⟩
  rw [← hx] at hS
  rw [← hx]
  clear hx
  rcases hS with ⟨rfl, hp, h1, h2, hF⟩ | ⟨hne, hF⟩
  · have HF : Hid (addF ns ys zs = none) := hF
    obtain ⟨rn, n1, n2, n3⟩ := (pubB_iff ns).1 hp
    have hn := IsN.self m.digs rn
    have hmN : mayN (nv ns) = true := (mayN_iff _).2 ⟨n1, n2, n3⟩
    obtain ⟨-, ry, y0, y1, y2⟩ := (validB_iff ns ys).1 h1
    have hy := IsN.self m'.digs ry
    obtain ⟨-, rz, z0, z1, z2⟩ := (validB_iff ns zs).1 h2
    have hz := IsN.self md.digs rz
    have hpos : 0 < nv ns := by omega
    clear hF hp h1 h2 n1
    have HV : Hid (((nv ys * nv zs : Nat) : Int) < 18446744073709551616 ^ 64) := big_prod y1 z1 n3
    go_wp2_with fail
    refine (pproduct_any _ _ _ _ _ _ _ _ _ _ _ _ _ _ _ _ m m' md hn hy hz n3 hpos HV.out).mono ?_
    rintro e w4 ⟨ra, rl, rc, rs, rfl, hR, hr, hb4⟩
    have hB4 := hB3.trans (hb4.mono hB3.size)
    have HI : Hid (IsN rs (addV ns ys zs)) := hr
    clear hr m m' md hn hy hz HV hB3 hb4
    go_wp2
    go_ret2
    exact ⟨ra, rl, rc, rs, 0, rfl, hR, Told.good HF.out HI.out, hB4⟩
  · have hz0 : (x == 0) = false := by simpa using hne
    have HT : Hid (Told (addF ns ys zs) (addV ns ys zs) [] x) := Told.bad hF
    clear hF hne m m' md
    go_wp2
    go_ret2
    exact ⟨none, 0, 0, [], x, rfl, Nums.nil _, HT.out, hB3⟩

end Go.Proofs.YtambpcgdaogojabGreat
