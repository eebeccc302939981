/-
  The contract of mont's raised.
-/
import Derived.Test.YtnioobiodiofiabFPow
namespace Go.Proofs.Ytnioobiodiofiab
open Go.RowKit

theorem pow_dig {E c i : Nat} (h : i < c) : E / 16 ^ (c - (i + 1)) = (E / 16 ^ (c - i)) * 16 + E / 16 ^ (c - 1 - i) % 16 := by
  have e1 : c - i = (c - 1 - i) + 1 := by omega
  have e2 : c - (i + 1) = c - 1 - i := by omega
  rw [e1, e2, Nat.pow_succ, ← Nat.div_div_eq_div_mul]
  omega

theorem bits_lt {es : List Int} {E : Nat} (hd : Digs 18446744073709551616 es) (hr : rightB es = true) (he : val 18446744073709551616 es = (E : Int)) : 0 ≤ bitsZ es ∧ bitsZ es ≤ 64 * (es.length : Int) ∧ E < 2 ^ (bitsZ es).toNat := by
  by_cases h0 : es.length = 0
  · have e : es = [] := List.eq_nil_of_length_eq_zero h0
    subst e
    have : bitsZ [] = 0 := by simp [bitsZ]
    rw [this]
    simp only [val] at he
    refine ⟨by decide, by simp, ?_⟩
    show E < 1
    omega
  · obtain ⟨s, hs, e1, -, h2⟩ := bits_norm hd hr h0
    refine ⟨by omega, by omega, ?_⟩
    rw [he, pow64] at h2
    have e2 : (2 : Int) ^ (64 * es.length) = 2 ^ (bitsZ es).toNat * 2 ^ s := by rw [← Int.pow_add]; congr 1; omega
    rw [e2] at h2
    have h3 := Int.lt_of_mul_lt_mul_right h2 (Int.le_of_lt (pow_pos' (by decide) s))
    have h4 : ((2 ^ (bitsZ es).toNat : Nat) : Int) = (2 : Int) ^ (bitsZ es).toNat := by simp
    rw [← h4] at h3
    omega

theorem pow_two_step (v : Int) (k t : Nat) : v ^ (k * 2 ^ (t + 1)) = v ^ (k * 2 ^ t) * v ^ (k * 2 ^ t) := by
  rw [← Int.pow_add]; congr 1
  rw [Nat.pow_succ, ← Nat.mul_assoc]; omega

theorem count_ok {bz : Int} {cnt : Nat} {E : Nat} (h : (cnt : Int) = (bz + 3) / 4) (h0 : 0 ≤ bz) (hE : E < 2 ^ bz.toNat) : E / 16 ^ cnt = 0 := by
  apply Nat.div_eq_of_lt
  have e : (16 : Nat) ^ cnt = 2 ^ (4 * cnt) := by rw [Nat.pow_mul]
  rw [e]
  exact Nat.lt_of_lt_of_le hE (Nat.pow_le_pow_right (by omega) (by omega))

set_option maxHeartbeats 3200000 in
theorem raised_any (p : Option Addr) (zs : List Int) (f : Int) (qs : List Int) (a b c : Option Addr) (la ca lb cb lc cc : Nat) (os xs es : List Int) (v : Int) (E : Nat) (w : World) (h : RingAt w p zs f qs) (hR : RingOk zs f qs) (ha : Nums w a la ca os) (hb : Nums w b lb cb xs) (hc : Nums w c lc cc es) (ho : MF zs 1 os) (hx : MF zs v xs)
    (he : val 18446744073709551616 es = (E : Int)) (hr : rightB es = true) (h8 : lc ≤ 8) :
    Calls Try.prog 33 #[.slice a la ca, .slice b lb cb, .slice c lc cc, .func (.func 32) #[.pointer p] #[]] w fun e w' => ∃ a' n c' ls, e = .returned (.slice a' n c') ∧ Nums w' a' n c' ls ∧ MF zs (v ^ E) ls ∧ Below w.heap.size w w' := by
  obtain ⟨bz, hbz⟩ : ∃ bz, bz = bitsZ es := ⟨_, rfl⟩
  have hbl := bits_lt hc.digs hr he
  have hcl := hc.hlen
  rw [← hbz, hcl] at hbl
  have HB : Hid (bz = bitsZ es) := hbz
  obtain ⟨cnt, hcnt⟩ : ∃ cnt : Nat, (cnt : Int) = (bz + 3) / 4 := ⟨((bz + 3) / 4).toNat, by omega⟩
  have HE0 : Hid (E / 16 ^ cnt = 0) := count_ok hcnt hbl.1 hbl.2.2
  have hb0 : 0 ≤ bz ∧ bz ≤ 512 := by omega
  have hcn : cnt ≤ 16 * lc := by omega
  clear hcl hbz hbl
  go_enter Try.func33, Try.ntmps33
  go_wp2_with fail
  refine (fpow_any p zs f qs a b la ca lb cb os xs v w h hR ha hb ho hx).mono ?_
  rintro e w1 ⟨cur, rfl, hsz, hS, hb1⟩
  have HS1 : Hid (∀ j, j < 16 → ∃ y, cur[j]? = some y ∧ SV w1 zs (v ^ j) y) := hS
  have HI : (Try.prog.info? 78).map (·.size) = some cur.size := by rw [hsz]; exact Try.infoArr
  have hone : cur.all (·.oneCell') = true := by
    rw [Array.all_eq_true_iff_forall_mem]
    intro x hx
    obtain ⟨j, hj, rfl⟩ := Array.getElem_of_mem hx
    obtain ⟨y, hy, sa, sn, sc, ls, rfl, -, -⟩ := hS j (by omega)
    rw [Array.getElem?_eq_getElem hj] at hy
    simp only [Option.some.injEq] at hy
    rw [hy]; rfl
  have hnew := arr_new w1 none 0 0
  clear hS
  go_wp2_with (refine wpList_store_row rfl 78 _ _ rfl w1.heap.size cur rfl rfl 78 (arr16 (.slice none 0 0)) hnew.1 HI (by rw [hsz]; rfl) hone ?_)
  have hB2 := hb1.alloc hb1.size (.cells (arr16 (.slice none 0 0)) 78)
  have hB3 := below_setRow hB2 (g := w1.heap.size) hb1.size cur
  have HS3 : Hid (∀ j, j < 16 → ∃ y, cur[j]? = some y ∧ SV ((w1.alloc (.cells (arr16 (.slice none 0 0)) 78)).setRow w1.heap.size cur) zs (v ^ j) y) := fun j hj => by
    obtain ⟨y, hy, hsv⟩ := HS1.out j hj
    exact ⟨y, hy, (hsv.below ((Below.refl _ _).alloc (Nat.le_refl _) _)).setRow hnew.1 hnew.slices _⟩
  have hcells : ∀ j, ((w1.alloc (.cells (arr16 (.slice none 0 0)) 78)).setRow w1.heap.size cur).cell? ⟨w1.heap.size, j, none⟩ = cur[j]? := fun j => cell_setRow_same _ _ _ _ _ _ _ hnew.1
  have hsz3 : w1.heap.size < ((w1.alloc (.cells (arr16 (.slice none 0 0)) 78)).setRow w1.heap.size cur).heap.size := by simp
  obtain ⟨w3, hw3⟩ : ∃ w3, w3 = (w1.alloc (.cells #[Value.slice none 0 0, Value.slice none 0 0, Value.slice none 0 0, Value.slice none 0 0, Value.slice none 0 0, Value.slice none 0 0, Value.slice none 0 0, Value.slice none 0 0, Value.slice none 0 0, Value.slice none 0 0, Value.slice none 0 0, Value.slice none 0 0, Value.slice none 0 0, Value.slice none 0 0, Value.slice none 0 0, Value.slice none 0 0] 78)).setRow w1.heap.size cur := ⟨_, rfl⟩
  have hw3' : w3 = (w1.alloc (.cells (arr16 (.slice none 0 0)) 78)).setRow w1.heap.size cur := hw3
  rw [← hw3'] at hB3 hcells hsz3
  rw [← hw3'] at HS3
  rw [← hw3]
  have ha3 := ha.below hB3
  have hc3 := hc.below hB3
  have hR3 := h.below hB3
  have HC : Hid (∀ j, w3.cell? ⟨w1.heap.size, j, none⟩ = cur[j]?) := hcells
  clear hw3 hw3' hcells hnew hB2 HS1 HI hone
  generalize w1.heap.size = g at *
  refine (bits_any _ _ _ _ _ hc3).mono ?_
  rintro e w4 ⟨rfl, rfl⟩
  rw [← HB.out]
  go_wp2
  go_loopw [10, 24] (fun pv iv wr => ∃ i : Nat, i ≤ cnt ∧ iv = .int .i64 i ∧ SV wr zs (v ^ (E / 16 ^ (cnt - i))) pv ∧ Below w4.heap.size w4 wr) (fun _ iv _ => cnt - (intOf iv).toNat)
  case atStart => exact ⟨0, Nat.zero_le _, rfl, ⟨a, la, ca, os, rfl, ha3, by rw [Nat.sub_zero, HE0.out, Int.pow_zero]; exact ho⟩, Below.refl _ _⟩
  case round =>
    obtain ⟨i, hi, rfl, ⟨pa, pn, pc, ps, rfl, hp, hpm⟩, hbr⟩ := hrel
    by_cases hlt : i < cnt
    · have hlti : (i : Int) < (bz + 4 - 1) / 4 := by omega
      have hlti2 : (i : Int) < (bz + 3) / 4 := by omega
      obtain ⟨d, hd⟩ : ∃ d, d = E / 16 ^ (cnt - 1 - i) % 16 := ⟨_, rfl⟩
      have hd16 : d < 16 := by rw [hd]; exact Nat.mod_lt _ (by decide)
      obtain ⟨y, hy, da, dn, dc, ds, rfl, hdn, hdm⟩ := HS3.out d hd16
      have HDc : Hid (w4.cell? ⟨g, d, none⟩ = some (.slice da dn dc)) := (HC.out d).trans hy
      have HD : Hid (d = E / 16 ^ (cnt - 1 - i) % 16) := hd
      have hdi : (d : Int) < 16 := by omega
      have HP : Hid (MF zs (v ^ (E / 16 ^ (cnt - i) * 2 ^ 0)) ps) := by rw [Nat.pow_zero, Nat.mul_one]; exact hpm
      clear hy hd hpm
      generalize hk : E / 16 ^ (cnt - i) = k at *
      have HK : Hid (E / 16 ^ (cnt - i) = k) := hk
      clear hk
      go_wp2
      go_loopw [10, 27] (fun pv tv wq => ∃ t : Nat, t ≤ 4 ∧ tv = .int .i64 t ∧ SV wq zs (v ^ (k * 2 ^ t)) pv ∧ Below w4.heap.size w4 wq) (fun _ tv _ => 4 - (intOf tv).toNat)
      case atStart => exact ⟨0, by omega, rfl, ⟨pa, pn, pc, ps, rfl, hp, HP.out⟩, hbr⟩
      case round =>
        clear hp HP hbr
        obtain ⟨t, ht, rfl, ⟨ra, rn, rc, rs, rfl, hrn, hrm⟩, hbq⟩ := hrel
        by_cases hlt4 : t < 4
        · have hti : (t : Int) < 4 := by omega
          have hRq := hR3.below hbq
          go_wp2_with fail
          refine (mpMF_any _ _ _ _ _ _ _ _ _ _ _ _ _ _ _ hRq hR hrn hrn hrm hrm).mono ?_
          rintro e w5 ⟨za, zn, zc, ls, rfl, hz, hzm, hb5⟩
          have hB5 := hbq.trans (hb5.mono hbq.size)
          have HZ : Hid (MF zs (v ^ (k * 2 ^ (t + 1))) ls) := by rw [pow_two_step]; exact hzm
          clear hzm hrm hrn hbq hb5 hRq
          go_wp2
          go_roundw
          case rel => exact ⟨t + 1, by omega, by go_num, ⟨za, zn, zc, ls, rfl, hz, HZ.out⟩, hB5⟩
          case measure => simp [intOf]; omega
        · obtain rfl : t = 4 := by omega
          have hcq := hc3.below hbq
          have hRq := hR3.below hbq
          have hdq := hdn.below hbq
          have HM : Hid (MF zs (v ^ (k * 16)) rs) := hrm
          have hdc : ∀ wx, Below w4.heap.size w4 wx → wx.cell? ⟨g, d, none⟩ = some (.slice da dn dc) := fun wx hbx => (hbx.cell (p := ⟨g, d, none⟩) hsz3).trans HDc.out
          have hcell := hdc _ hbq
          have hidx : ((bz + 4 - 1) / 4 - 1 - (i : Int)).toNat = cnt - 1 - i := by omega
          have HDig : Hid (∀ wx, Nums wx c lc cc es → Calls Try.prog 60 #[.slice c lc cc, .int .i64 ((bz + 4 - 1) / 4 - 1 - (i : Int))] wx fun e w' => e = .returned (.int .u64 (d : Int)) ∧ w' = wx) := fun wx hn => by
            have := mdigit_any c lc cc es E ((bz + 4 - 1) / 4 - 1 - (i : Int)) wx hn he (by omega) (by omega)
            rw [hidx, ← HD.out] at this
            exact this
          clear hrm hdc hidx
          go_wp2_with fail
          refine (HDig.out _ hcq).mono ?_
          rintro e w5 ⟨rfl, rfl⟩
          go_wp2_with fail
          refine (mpMF_any _ _ _ _ _ _ _ _ _ _ _ _ _ _ _ hRq hR hrn hdq HM.out hdm).mono ?_
          rintro e w6 ⟨za, zn, zc, ls, rfl, hz, hzm, hb6⟩
          have hB6 := hbq.trans (hb6.mono hbq.size)
          have HZ : Hid (MF zs (v ^ (E / 16 ^ (cnt - (i + 1)))) ls) := by
            rw [pow_dig hlt, HK.out, ← HD.out, Int.pow_add]; exact hzm
          clear hzm hbq hb6 hRq hcq hdq hcell
          go_wp2
          go_roundw
          case rel => exact ⟨i + 1, by omega, by go_num, ⟨za, zn, zc, ls, rfl, hz, HZ.out⟩, hB6⟩
          case measure => simp [intOf]; omega
    · have hge : ¬ (i : Int) < (bz + 4 - 1) / 4 := by omega
      have hge2 : ¬ (i : Int) < (bz + 3) / 4 := by omega
      obtain rfl : i = cnt := by omega
      go_wp2
      go_ret
      have hB := hB3.trans (hbr.mono hB3.size)
      refine ⟨pa, pn, pc, rfl, ps, hp, ?_, hB⟩
      rw [Nat.sub_self, Nat.pow_zero, Nat.div_one] at hpm
      exact hpm
end Go.Proofs.Ytnioobiodiofiab
