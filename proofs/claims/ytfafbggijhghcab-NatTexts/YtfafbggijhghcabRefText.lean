/-
  The contract of the document's Text.
-/
import Derived.Test.YtfafbggijhghcabTextA
import Derived.Test.YtfafbggijhghcabRefDivB
namespace Go.Proofs.Ytfafbggijhghcab
open Go.RowKit

theorem BOwn.below {w w' : World} {base : Nat} {v : Value} {zs : List Int} (h : BOwn w base v zs) (hb : Below w.heap.size w w') : BOwn w' base v zs := by
  refine World.ownsRow.kept h (grown_of_below hb none) ?_
  cases hv : v.ownBlock with
  | none => exact .inl rfl
  | some k => right; intro e; cases e

theorem BBlk.bytsC {w : World} {g n c : Nat} {L : List Int} (h : BBlk w g L) (hd : Digs 256 L) (hl : L.length = n) (hn : n ≤ c) (hc : c ≤ maxLen) : Byts w (some ⟨g, 0, none⟩) n c L := by
  subst hl
  refine ⟨rfl, hn, hc, fun _ => ⟨g, 0, rfl, fun i hi => ?_⟩, hd⟩
  rw [Nat.zero_add]; exact h.cell hi

theorem Nums.grownO {w w' : World} {a : Option Addr} {len cap : Nat} {row : Option Nat} {zs : List Int} (h : Nums w a len cap zs) (hg : w.grownBy w' row) (hne : ∀ x, a = some x → row ≠ some x.block) : Nums w' a len cap zs := by
  refine ⟨h.hlen, h.hcap, h.hmax, fun hp => ?_, h.word⟩
  obtain ⟨b, off, ha, hc⟩ := h.cells hp
  refine ⟨b, off, ha, fun i hi => ?_⟩
  rw [← hc i hi]
  exact World.cell?_of_block (w := w) (hg.block b (World.block_lt_of_cell? w _ (hc i hi)) (fun e => hne _ ha e.symm))

theorem wpList_appB1g (w : World) {ops : Array Oper} {rest : List Oper} {o : Oper} {a : Act} {Q : Exit → Act → World → Prop} (hgd : o.guard = none) (s x : Operand) (t : TypeId)
    (ho : o.op = .call { callee := .builtin .append, args := #[s, x], argTypes := #[t, t] }) (ht : Try.prog.underlying t = some (.slice 5))
    (base : Nat) (v : Value) (zs : List Int) (hs : a.eval s = v) (hown : BOwn w base v zs) (ad : Addr) (y : Int) (hx : a.eval x = .slice (some ad) 1 1) (hc : w.cell? ad = some (.int .u8 y))
    (hlen : zs.length < 1000000) (w0 : World) (hbase : base ≤ w.heap.size) (hb : Below base w0 w)
    (h : ∀ v' w', BOwn w' base v' (zs ++ [y]) → Below base w0 w' → w.grownBy w' v.ownBlock → wpList Try.prog ops Q rest (a.put o.dst v') w') : wpList Try.prog ops Q (o :: rest) a w := by
  obtain ⟨i0, hi, hz0, hz1, hz2⟩ := info_parts Try.infoB
  refine wpList_append_own w hgd s x t ho base 5 i0 (.int .u8 0) 1 1 ht hi hz0 hz1 hz2 rfl (by decide) v zs.length (zs.map (Value.int .u8)) hs hown ad 1 1 [.int .u8 y] hx rfl ?_ ?_ ?_ ?_ hbase ?_
  · intro j u hj
    match j, hj with
    | 0, hj =>
      simp at hj; subst hj
      obtain ⟨b, off, spot⟩ := ad
      have hspot : spot = none := World.cell?_spot hc
      subst hspot
      rw [Addr.add_lit]; exact hc
  · intro u hu; simp at hu; subst hu; rfl
  · unfold maxLen; omega
  · omega
  · intro v' w' h2 h3 _
    refine h v' w' ?_ (hb.grown h3 hbase (fun k hk => (World.ownsRow.lt hown k hk).1)) h3
    have e : (zs ++ [y]).length = zs.length + 1 := by simp
    unfold BOwn
    rw [e, List.map_append]
    exact h2

theorem first_digit {rs : List Int} (hd : Digs 65536 rs) (ht : Top rs) (h : val 65536 rs < 10) : rs.getD 0 0 = val 65536 rs := by
  have hl : rs.length ≤ 1 := len_le (B := 65536) (by decide) hd ht (by omega)
  match rs, hl with
  | [], _ => rfl
  | [y], _ => simp [val]

/-- A digit more: what is left is a tenth. -/
theorem rt_step {es ds qs : List Int} {E r : Int} (hd : Digs 10 es) (hv : val 10 es + 10 ^ es.length * val 65536 ds = E) (hq : val 65536 ds = val 65536 qs * 10 + r) (hr : 0 ≤ r ∧ r < 10) :
    Digs 10 (es ++ [r]) ∧ val 10 (es ++ [r]) + 10 ^ (es ++ [r]).length * val 65536 qs = E := by
  refine ⟨hd.snoc hr, ?_⟩
  rw [val_snoc, List.length_append, List.length_singleton, Int.pow_succ, ← hv, hq, Int.mul_add, Int.mul_assoc, Int.mul_comm (val 65536 qs) 10]
  omega

theorem trim_all {es : List Int} (h : Top es) : Trim es es.length := by
  refine ⟨Nat.le_refl _, fun j h1 h2 => by omega, ?_⟩
  rcases h with rfl | h
  · exact .inl rfl
  · exact .inr h

set_option maxHeartbeats 3200000 in
theorem refText_any (a : Option Addr) (la ca : Nat) (zs : List Int) (w : World) (h : Nums w a la ca zs) :
    Calls Try.prog 24 #[.slice a la ca] w fun e w' => ∃ S, e = .returned (.string S) ∧ ResText zs S ∧ Below w.heap.size w w' := by
  have hzl := h.hlen
  have hzd := h.digs
  have hcm := h.hmax
  have hcp := h.hcap
  unfold maxLen at hcm
  cases hr : rightB zs with
  | false =>
    go_enter Try.func24, Try.ntmps24
    go_wp2_with fail
    refine (refRight_any _ _ _ _ _ h).mono ?_
    rintro e w1 ⟨rfl, rfl⟩
    rw [hr]
    go_wp2
    go_ret
    exact ⟨_, rfl, by simp [ResText, hr], Below.refl _ _⟩
  | true =>
  by_cases h0 : la = 0
  · subst h0
    go_enter Try.func24, Try.ntmps24
    go_wp2_with fail
    refine (refRight_any _ _ _ _ _ h).mono ?_
    rintro e w1 ⟨rfl, rfl⟩
    rw [hr]
    go_wp2
    go_ret
    exact ⟨_, rfl, by simp [ResText, hr, hzl], Below.refl _ _⟩
  have hne : ((la : Int) == 0) = false := by simp; omega
  have hla : la ≤ 64 := by have := right_len hr; omega
  obtain ⟨E, hE⟩ : ∃ E, E = val 18446744073709551616 zs := ⟨_, rfl⟩
  have hEp : 1 ≤ E := by
    have := val_ge (B := 18446744073709551616) (by decide) hzd (right_top hr) (by intro e; subst e; simp at hzl; omega)
    have := pow_pos' (B := 18446744073709551616) (by decide) (zs.length - 1)
    omega
  have hEl : E < 18446744073709551616 ^ 64 := by rw [hE]; exact val_lt_pow (by decide) hzd (right_len hr)
  have HE : Hid ((1 ≤ E ∧ E < 18446744073709551616 ^ 64) ∧ E = val 18446744073709551616 zs ∧ zs.length ≠ 0) := ⟨⟨hEp, hEl⟩, hE, by omega⟩
  clear hzl hEl hE hEp
  go_enter Try.func24, Try.ntmps24
  go_wp2_with fail
  refine (refRight_any _ _ _ _ _ h).mono ?_
  rintro e w0 ⟨rfl, rfl⟩
  rw [hr]
  go_wp2_with fail
  refine (in_any _ _ _ _ _ h (by omega)).mono ?_
  rintro e w1 ⟨da, n, dc, ds, rfl, hds, hdd, hdt, hdv, hb1⟩
  have hdl := hds.hlen
  have hn : n ≤ 256 := by
    have e1 : val 65536 ds < 65536 ^ 256 := by
      rw [hdv, ← HE.out.2.1]
      have e2 : (18446744073709551616 : Int) ^ 64 = 65536 ^ 256 := by rw [show (18446744073709551616 : Int) = 65536 ^ 4 by decide, ← Int.pow_mul]
      have := HE.out.1.2
      omega
    have := len_le (B := 65536) (by decide) hdd hdt e1
    omega
  rw [← HE.out.2.1] at hdv
  have HV0 : Hid (val 10 ([] : List Int) + 10 ^ ([] : List Int).length * val 65536 ds = E ∧ (ds = [] → Top ([] : List Int))) := ⟨by simp [val, hdv], fun _ => .inl rfl⟩
  clear hdv hdl h
  go_wp2
  go_loopg [4, 5] (E.toNat + 1) (fun q dv ov wr => ∃ (xa : Option Addr) (xn xc : Nat) (xs es : List Int), dv = .slice xa xn xc ∧ Nums wr xa xn xc xs ∧ Digs 65536 xs ∧ Top xs ∧ xn ≤ 256 ∧ q = (val 65536 xs).toNat + 1 ∧ BOwn wr w1.heap.size ov (sg10 es) ∧ Digs 10 es ∧ Hid (val 10 es + 10 ^ es.length * val 65536 xs = E ∧ (xs = [] → Top es)) ∧ Below w1.heap.size w1 wr)
  case atStart => exact ⟨da, n, dc, ds, [], rfl, hds, hdd, hdt, hn, by have := HV0.out.1; simp [val] at this; rw [this], BOwn.nil _ _, Digs.nil _, HV0, Below.refl _ _⟩
  case round =>
    clear hds hdd hdt HV0 hn
    obtain ⟨xa, xn, xc, xs, es, rfl, hx, hxd, hxt, hxn, hq, hown, hed, HV, hbr⟩ := hrel
    have hxl := hx.hlen
    by_cases hx0 : xn = 0
    · have hxs : xs = [] := List.eq_nil_of_length_eq_zero (by omega)
      subst hxs
      have hev : val 10 es = E := by have := HV.out.1; simp [val] at this; exact this
      have het := HV.out.2 rfl
      have hel : es.length ≤ 1234 := len_le (B := 10) (by decide) hed het (by rw [hev]; have := big_ten; have := HE.out.1.2; omega)
      have hep : 0 < es.length := by
        rcases Nat.eq_zero_or_pos es.length with e | e
        · exfalso
          have : es = [] := List.eq_nil_of_length_eq_zero e
          subst this
          have := HE.out.1.1
          simp [val] at hev
          omega
        · exact e
      subst hx0
      obtain ⟨g, cap, hov, hgb, hblk, hec, hcmx⟩ := hown.blk (by rw [sg10_len]; exact hep)
      rw [sg10_len] at hov hec
      subst hov
      obtain ⟨m, hm⟩ : ∃ m, m = es.length := ⟨_, rfl⟩
      rw [← hm] at hec hel hep ⊢
      have HM : Hid (m = es.length ∧ val 10 es = E ∧ Top es) := ⟨hm, hev, het⟩
      have hsd := sg10_digs hed
      have hB0 := hb1.trans (hbr.mono hb1.size)
      obtain ⟨L, hL⟩ : ∃ L, L = sg10 es := ⟨_, rfl⟩
      rw [← hL] at hblk hsd
      have HED : Hid (Digs 10 es) := hed
      have HL : Hid (L = sg10 es ∧ L.length = m) := ⟨hL, by rw [hL, sg10_len]; exact hm.symm⟩
      have hgw : w0.heap.size ≤ g := Nat.le_trans hb1.size hgb
      unfold maxLen at hcmx
      clear hm hev het HV hx hxd hxt hxl hq hL hb1 hbr hed
      obtain ⟨wo, hwo⟩ : ∃ wo, wo = wr := ⟨_, rfl⟩
      subst hwo
      go_wp2
      go_loopw [8] (fun iv wq => ∃ i : Nat, i ≤ m ∧ iv = .int .i64 i ∧ ∃ M, BBlk wq g M ∧ Digs 256 M ∧ Hid (M.length = L.length ∧ (∀ q, q < m → (q < i ∨ m - 1 - q < i) → M.getD q 0 = L.getD (m - 1 - q) 0) ∧ (∀ q, i ≤ q → i ≤ m - 1 - q → q < m → M.getD q 0 = L.getD q 0)) ∧ wo.grownBy wq (some g)) (fun iv _ => m - (intOf iv).toNat)
      case atStart => exact ⟨0, Nat.zero_le _, rfl, L, hblk, hsd, ⟨rfl, fun q hq hc => by omega, fun _ _ _ _ => rfl⟩, World.grownBy.refl _ _⟩
      case round =>
        clear hblk hsd
        obtain ⟨i, hi, rfl, M, hbM, hMd, HR, hgr⟩ := hrel
        have hml : M.length = m := HR.out.1.trans HL.out.2
        by_cases hlt : i < m / 2
        · have hlti : (i : Int) < (m : Int) / 2 := by omega
          have hj : (m : Int) - 1 - (i : Int) < (m : Int) := by omega
          have hj0 : 0 ≤ (m : Int) - 1 - (i : Int) := by omega
          have hin : (i : Int) < (m : Int) := by omega
          obtain ⟨x, hx⟩ : ∃ x, x = M.getD i 0 := ⟨_, rfl⟩
          obtain ⟨y, hy⟩ : ∃ y, y = M.getD (m - 1 - i) 0 := ⟨_, rfl⟩
          have hc1 : wr.cell? ⟨g, i, none⟩ = some (.int .u8 x) := by rw [hx]; exact hbM.cell (by omega)
          have hc2 : wr.cell? ⟨g, m - 1 - i, none⟩ = some (.int .u8 y) := by rw [hy]; exact hbM.cell (by omega)
          have hf1 : wr.frozen? ⟨g, i, none⟩ = false := hbM.frozen _
          have hf2 : wr.frozen? ⟨g, m - 1 - i, none⟩ = false := hbM.frozen _
          have hne1 : ¬ i = m - 1 - i := by omega
          have hne2 : ¬ m - 1 - i = i := by omega
          have hbx : 0 ≤ x ∧ x < 256 := by rw [hx]; exact hMd.getD (by decide) _
          have hby : 0 ≤ y ∧ y < 256 := by rw [hy]; exact hMd.getD (by decide) _
          have HS : Hid (((M.set i y).set (m - 1 - i) x).length = L.length ∧ (∀ q, q < m → (q < i + 1 ∨ m - 1 - q < i + 1) → ((M.set i y).set (m - 1 - i) x).getD q 0 = L.getD (m - 1 - q) 0) ∧ (∀ q, i + 1 ≤ q → i + 1 ≤ m - 1 - q → q < m → ((M.set i y).set (m - 1 - i) x).getD q 0 = L.getD q 0)) :=
            rev_step HR.out.1 (by have := HL.out.2; omega) (by omega) HR.out.2.1 HR.out.2.2 ((M.set i y).set (m - 1 - i) x) (by rw [hx, hy])
          have HB1 : Hid (BBlk ((wr.setCell ⟨g, i, none⟩ (.int .u8 y)).setCell ⟨g, m - 1 - i, none⟩ (.int .u8 x)) g ((M.set i y).set (m - 1 - i) x)) := (hbM.set i y).set (m - 1 - i) x
          have HG1 : Hid (wo.grownBy ((wr.setCell ⟨g, i, none⟩ (.int .u8 y)).setCell ⟨g, m - 1 - i, none⟩ (.int .u8 x)) (some g)) := grown_trans (grown_trans hgr (grown_set wr g i _)) (grown_set _ g _ _)
          have hd2 := (hMd.set i hby).set (m - 1 - i) hbx
          clear hx hy HR hml hbM hgr hMd
          go_wp2
          go_roundw
          case rel => exact ⟨i + 1, by omega, by go_num, _, HB1.out, hd2, HS.out, HG1.out⟩
          case measure => simp [intOf]; omega
        · have hgd : decide ((i : Int) < (m : Int) / 2) = false := decide_eq_false (by omega)
          have HT : Hid (ResText zs (strOf M)) := by
            have hM : ∀ q, q < es.length → M.getD q 0 = (sg10 es).getD (es.length - 1 - q) 0 := fun q hq => by
              rw [← HM.out.1] at hq ⊢
              rw [← HL.out.1]
              by_cases hc : q < i ∨ m - 1 - q < i
              · exact HR.out.2.1 q hq hc
              · rw [HR.out.2.2 q (by omega) (by omega) hq]; congr 1; omega
            have ht : Trim es es.length := trim_all HM.out.2.2
            have hed : Digs 10 es := HED.out
            rcases tx_last hed HM.out.2.1 HE.out.2.1.symm hr HE.out.2.2 ht hM with h | h
            · rw [List.take_of_length_le (by have := HM.out.1; omega)] at h
              exact h
            · exfalso; have := HM.out.1; omega
          have hby := hbM.bytsC hMd hml hec (by unfold maxLen; omega)
          have hB : Below w0.heap.size w0 wr := hB0.grown hgr hB0.size (fun q hq => by cases hq; exact hgw)
          have c1 := conv_any hby
          clear HR hml hbM hMd hby
          go_wp2
          go_ret
          exact ⟨_, rfl, HT.out, hB⟩
    · have hx0' : (0 : Int) < (xn : Int) := by omega
      obtain ⟨v, hv⟩ : ∃ v, v = val 65536 xs := ⟨_, rfl⟩
      have hv1 : 1 ≤ v := by
        have := val_ge (B := 65536) (by decide) hxd hxt (by intro e; subst e; simp at hxl; omega)
        have := pow_pos' (B := 65536) (by decide) (xs.length - 1)
        omega
      have hes : es.length ≤ 1233 := tx_few HE.out.1.2 hed HV.out.1 (by rw [← hv]; exact hv1)
      have L1 := Nums.lit1 wr 10 (by omega) 30
      have b1 := (Below.refl wr.heap.size wr).alloc (Nat.le_refl _) (.cells #[.int .u64 10] 30)
      have HOL := (show Hid _ from fun (k : Nat) hk => (World.ownsRow.lt hown k hk).2)
      have hx1 := hx.below b1
      have ho1 := hown.below b1
      have hbr1 := hbr.alloc hbr.size (.cells #[.int .u64 10] 30)
      have HVv : Hid (v = val 65536 xs) := hv
      clear hx hown hbr b1 hv hxl
      go_wp2_with fail
      refine (rdivF_any _ _ _ _ _ _ _ [10] _ hx1 L1 hxd (by intro z hz; simp at hz; omega) (by decide) (by omega) (by omega)).mono ?_
      rintro e w2 ⟨qa, qn, qc, qs, ra, rn, rc, rs, rfl, hqn, hrn, ⟨qd, qt, rd, rt, hq1, hr1, heq, hrl⟩, hqa, hb2⟩
      have e10 : val 65536 ([10] : List Int) = 10 := by decide
      rw [e10] at heq hrl
      have hr0 := val_nonneg (B := 65536) (by decide) rd
      have hfd := first_digit rd rt hrl
      obtain ⟨r, hre⟩ : ∃ r, r = val 65536 rs := ⟨_, rfl⟩
      rw [← hre] at heq hrl hr0 hfd
      have hdg : Hid (∀ wx : World, Nums wx ra rn rc rs → Calls Try.prog 63 #[.slice ra rn rc, .int .i64 0] wx fun e w' => e = .returned (.int .u64 r) ∧ w' = wx) := fun wx hx => by
        have := digit_any ra rn rc rs 0 wx hx
        rw [hfd] at this
        simpa using this
      have HN := (show Hid _ from rt_step hed HV.out.1 heq ⟨hr0, hrl⟩)
      have HT : Hid (qs = [] → Top (es ++ [r])) := fun e => by
        subst e
        have hv2 := HVv.out
        rw [heq] at hv2
        simp [val] at hv2
        right
        simp
        omega
      have hqv : (val 65536 qs).toNat < v.toNat := by
        have := val_nonneg (B := 65536) (by decide) qd
        have e := HVv.out
        rw [heq] at e
        omega
      have ho2 := ho1.below hb2
      have hbr2 := hbr1.trans (hb2.mono hbr1.size)
      have HQ2 : Hid ((val 65536 qs).toNat + 1 < (val 65536 xs).toNat + 1) := by show _ < _; rw [← HVv.out]; omega
      have hw1 : 0 ≤ 48 + r ∧ 48 + r < 256 := by omega
      have hsl : (sg10 es).length < 1000000 := by rw [sg10_len]; omega
      have HQ : Hid (qa = some ⟨wr.heap.size + 1, 0, none⟩) := by show _ = _; rw [hqa]; simp
      clear ho1 hbr1 hb2 L1 hx1 hre hfd heq HV HVv rd rt hqv hv1 hqa
      go_wp2_with fail
      refine (hdg.out _ hrn).mono ?_
      rintro e w3 ⟨rfl, rfl⟩
      go_wp2_with (at_builtin; refine wpList_appB1g _ rfl _ _ 41 rfl Try.underlying41 w1.heap.size _ _ rfl (ho2.alloc _) ⟨w3.heap.size, 0, none⟩ (48 + r) rfl ?c1 hsl w1 ?c2 ?c3 ?_)
      case c1 => simp
      case c2 => have := hbr2.size; simp; omega
      case c3 => exact hbr2.alloc hbr2.size _
      intro v' w4 hown4 hb4 hg4
      have hq4 : Nums w4 qa qn qc qs := by
        have hqA := hqn.below ((Below.refl _ _).alloc (Nat.le_refl _) (.cells #[.int .u8 (48 + r)] 5))
        refine Nums.grownO hqA hg4 (fun x hx e => ?_)
        rw [HQ.out] at hx
        cases hx
        have := HOL.out _ e
        simp at this
        omega
      rw [sg10_snoc] at hown4
      clear ho2 hbr2 hqn hrn hdg
      go_wp2
      go_roundg ((val 65536 qs).toNat + 1)
      case measure => rw [hq]; exact HQ2.out
      case rel => exact ⟨qa, qn, qc, qs, es ++ [r], rfl, hq4, qd, qt, by omega, rfl, hown4, HN.out.1, ⟨HN.out.2, HT.out⟩, hb4⟩
end Go.Proofs.Ytfafbggijhghcab
