/-
  The contract of nat.Div: the quotient and the rest of two numbers.
-/
import Derived.Test.YtaipkganijofjabSub
import Derived.Test.YtaipkganijofjabLongDiv
namespace Go.Proofs.Ytaipkganijofjab
open Go.RowKit

set_option maxHeartbeats 400000 in
theorem of_new (n : Int) (w : World) (hn : 0 ≤ n ∧ n < 18446744073709551616) :
    Calls Try.prog 30 #[.int .u64 n] w fun e w' => ∃ a len cap, e = .returned (.slice a len cap) ∧ Nums w' a len cap (ofZ n) ∧ Fresh w w' a len ∧ Below w.heap.size w w' := by
  by_cases h0 : n = 0
  · subst h0
    go_enter Try.func30, Try.ntmps30
    go_wp2
    go_ret
    exact ⟨none, 0, 0, rfl, Nums.nil _, fun hp => absurd hp (Nat.lt_irrefl _), Below.refl _ _⟩
  · have hne : (n == 0) = false := by simp [h0]
    go_enter Try.func30, Try.ntmps30
    go_wp2
    go_ret
    exact ⟨_, _, _, rfl, by rw [ofZ, if_neg h0]; exact Nums.lit1 w n hn _, fun _ => ⟨_, [n], rfl, Nat.le_refl _, ⟨#[.int .u64 n], by show (w.heap.push _)[w.heap.size]? = _; simp, by simp⟩, Nat.le_refl _⟩, (Below.refl _ _).alloc (Nat.le_refl _) _⟩

/-- What is told of a quotient. -/
def ResDiv (zs ys qs rs : List Int) (err : Int) : Prop :=
  if rightB zs && rightB ys then (if ys.length = 0 then err = 3 ∧ qs = [] ∧ rs = [] else
    err = 0 ∧ Digs 18446744073709551616 qs ∧ Digs 18446744073709551616 rs ∧ rightB qs = true ∧ rightB rs = true ∧ val 18446744073709551616 qs = val 18446744073709551616 zs / val 18446744073709551616 ys ∧ val 18446744073709551616 rs = val 18446744073709551616 zs % val 18446744073709551616 ys)
  else err = 1 ∧ qs = [] ∧ rs = []

theorem ResDiv.unique {zs ys qs rs qs' rs' : List Int} {e f : Int} (h : ResDiv zs ys qs rs e) (h' : ResDiv zs ys qs' rs' f) : qs = qs' ∧ rs = rs' ∧ e = f := by
  unfold ResDiv at h h'
  split at h
  · rename_i hc
    rw [if_pos hc] at h'
    split at h
    · rename_i hc2
      rw [if_pos hc2] at h'
      obtain ⟨rfl, rfl, rfl⟩ := h
      obtain ⟨rfl, rfl, rfl⟩ := h'
      exact ⟨rfl, rfl, rfl⟩
    · rename_i hc2
      rw [if_neg hc2] at h'
      obtain ⟨rfl, d1, d2, t1, t2, v1, v2⟩ := h
      obtain ⟨rfl, d3, d4, t3, t4, v3, v4⟩ := h'
      exact ⟨val_inj (by decide) d1 d3 (right_top t1) (right_top t3) (v1.trans v3.symm), val_inj (by decide) d2 d4 (right_top t2) (right_top t4) (v2.trans v4.symm), rfl⟩
  · rename_i hc
    rw [if_neg hc] at h'
    obtain ⟨rfl, rfl, rfl⟩ := h
    obtain ⟨rfl, rfl, rfl⟩ := h'
    exact ⟨rfl, rfl, rfl⟩

theorem right_pos {zs : List Int} (hd : Digs 18446744073709551616 zs) (hr : rightB zs = true) (h : zs.length ≠ 0) : 0 < val 18446744073709551616 zs := by
  have := val_ge (B := 18446744073709551616) (by decide) hd (right_top hr) (by intro e; rw [e] at h; exact h rfl)
  have := pow_pos' (B := 18446744073709551616) (by decide) (zs.length - 1)
  omega

theorem resdiv_mk {zs ys qs rs : List Int} (hz : Digs 18446744073709551616 zs) (hy : Digs 18446744073709551616 ys) (hr : rightB zs = true) (hr' : rightB ys = true) (h0 : ys.length ≠ 0) (dq : Digs 18446744073709551616 qs) (dr : Digs 18446744073709551616 rs) (tq : Top qs) (tr : Top rs)
    (e : val 18446744073709551616 zs = val 18446744073709551616 qs * val 18446744073709551616 ys + val 18446744073709551616 rs) (hlt : val 18446744073709551616 rs < val 18446744073709551616 ys) : ResDiv zs ys qs rs 0 := by
  have hp := right_pos hy hr' h0
  have nr := val_nonneg (B := 18446744073709551616) (by decide) dr
  have nq := val_nonneg (B := 18446744073709551616) (by decide) dq
  have lz := val_lt_pow (B := 18446744073709551616) (by decide) hz (right_len hr)
  have ly := val_lt_pow (B := 18446744073709551616) (by decide) hy (right_len hr')
  have f : val 18446744073709551616 qs * 1 ≤ val 18446744073709551616 qs * val 18446744073709551616 ys := Int.mul_le_mul_of_nonneg_left (by omega) nq
  have l1 : qs.length ≤ 64 := len_le (B := 18446744073709551616) (by decide) dq tq (by omega)
  have l2 : rs.length ≤ 64 := len_le (B := 18446744073709551616) (by decide) dr tr (by omega)
  rw [ResDiv, hr, hr', Bool.and_true, if_pos rfl, if_neg h0]
  refine ⟨rfl, dq, dr, right_mk l1 tq, right_mk l2 tr, ?_, ?_⟩
  · rw [e, Int.add_comm, Int.add_mul_ediv_right _ _ (by omega), Int.ediv_eq_zero_of_lt nr hlt, Int.zero_add]
  · rw [e, Int.add_comm, Int.add_mul_emod_self_right, Int.emod_eq_of_lt nr hlt]

theorem resdiv_one {qs rs : List Int} {e : Int} (h : ResDiv [1] [1] qs rs e) : qs.length = 1 := by
  have h2 : ResDiv [1] [1] [1] [] 0 := resdiv_mk (by intro x hx; simp at hx; omega) (by intro x hx; simp at hx; omega) (by decide) (by decide) (by decide) (by intro x hx; simp at hx; omega) (Digs.nil _) (by simp [Top]) (.inl rfl) (by decide) (by decide)
  rw [(h.unique h2).1]; rfl

theorem res_fits {v : Int} {ls : List Int} {e : Int} (h : Res v ls e) (hv : v < 18446744073709551616 ^ 64) : e = 0 ∧ Digs 18446744073709551616 ls ∧ rightB ls = true ∧ val 18446744073709551616 ls = v := by
  rcases h with ⟨rfl, hd, ht, hl, hv'⟩ | ⟨_, _, zs, hd, ht, hv', hl⟩
  · exact ⟨rfl, hd, right_mk hl ht, hv'⟩
  · have := len_le (B := 18446744073709551616) (by decide) hd ht (k := 64) (by omega)
    omega

theorem Fresh.none (w0 w : World) : Fresh w0 w none 0 := fun hp => absurd hp (Nat.lt_irrefl _)

set_option maxHeartbeats 1600000 in
theorem div_any (a b : Option Addr) (la ca lb cb : Nat) (zs ys : List Int) (w : World) (h : Nums w a la ca zs) (h' : Nums w b lb cb ys) :
    Calls Try.prog 53 #[.slice a la ca, .slice b lb cb] w fun e w' => ∃ a1 k1 c1 qs a2 k2 c2 rs err, e = .returned (.tuple #[.slice a1 k1 c1, .slice a2 k2 c2, .int .i64 err]) ∧ Nums w' a1 k1 c1 qs ∧ Nums w' a2 k2 c2 rs ∧
      ResDiv zs ys qs rs err ∧ Fresh w w' a1 k1 ∧ Fresh w w' a2 k2 ∧ (0 < k1 → 0 < k2 → ∀ x y, a1 = some x → a2 = some y → x.block ≠ y.block) ∧ Below w.heap.size w w' := by
  have hzd := h.digs
  have hyd := h'.digs
  have hzl := h.hlen
  have hyl := h'.hlen
  cases hr : rightB zs with
  | false =>
    clear hzl hyl
    go_enter Try.func53, Try.ntmps53
    go_wp2_with fail
    refine (right_any _ _ _ _ _ h).mono ?_
    rintro e w' ⟨rfl, rfl⟩
    go_wp2_with fail
    go_ret3
    exact ⟨none, 0, 0, [], none, 0, 0, [], 1, rfl, Nums.nil _, Nums.nil _, by simp [ResDiv, hr], Fresh.none _ _, Fresh.none _ _, fun hp => absurd hp (Nat.lt_irrefl _), Below.refl _ _⟩
  | true =>
  cases hr' : rightB ys with
  | false =>
    clear hzl hyl
    go_enter Try.func53, Try.ntmps53
    go_wp2_with fail
    refine (right_any _ _ _ _ _ h).mono ?_
    rintro e w' ⟨rfl, rfl⟩
    go_wp2_with fail
    refine (right_any _ _ _ _ _ h').mono ?_
    rintro e w' ⟨rfl, rfl⟩
    go_wp2_with fail
    go_ret3
    exact ⟨none, 0, 0, [], none, 0, 0, [], 1, rfl, Nums.nil _, Nums.nil _, by simp [ResDiv, hr'], Fresh.none _ _, Fresh.none _ _, fun hp => absurd hp (Nat.lt_irrefl _), Below.refl _ _⟩
  | true =>
    have hla : la ≤ 64 := by have := right_len hr; omega
    have hlb : lb ≤ 64 := by have := right_len hr'; omega
    have hcn : cmpN zs ys = cmpZ (val 18446744073709551616 zs) (val 18446744073709551616 ys) := by simp [cmpN, hr, hr']
    by_cases h0 : lb = 0
    · subst h0
      have HP : Hid (ResDiv zs ys [] [] 3) := (show ResDiv zs ys [] [] 3 by simp [ResDiv, hr, hr', hyl])
      clear hzl hyl hcn
      go_enter Try.func53, Try.ntmps53
      go_wp2_with fail
      refine (right_any _ _ _ _ _ h).mono ?_
      rintro e w' ⟨rfl, rfl⟩
      go_wp2_with fail
      refine (right_any _ _ _ _ _ h').mono ?_
      rintro e w0 ⟨rfl, rfl⟩
      go_wp2_with fail
      go_ret3
      exact ⟨none, 0, 0, [], none, 0, 0, [], 3, rfl, Nums.nil _, Nums.nil _, HP.out, Fresh.none _ _, Fresh.none _ _, fun hp => absurd hp (Nat.lt_irrefl _), Below.refl _ _⟩
    · have hmk : ∀ qs rs : List Int, Digs 18446744073709551616 qs → Digs 18446744073709551616 rs → Top qs → Top rs → val 18446744073709551616 zs = val 18446744073709551616 qs * val 18446744073709551616 ys + val 18446744073709551616 rs → val 18446744073709551616 rs < val 18446744073709551616 ys → ResDiv zs ys qs rs 0 :=
        fun qs rs => resdiv_mk hzd hyd hr hr' (by omega)
      have HMK : Hid (∀ qs rs : List Int, Digs 18446744073709551616 qs → Digs 18446744073709551616 rs → Top qs → Top rs → val 18446744073709551616 zs = val 18446744073709551616 qs * val 18446744073709551616 ys + val 18446744073709551616 rs → val 18446744073709551616 rs < val 18446744073709551616 ys → ResDiv zs ys qs rs 0) := hmk
      clear hmk
      have hb0 : ((lb : Int) == 0) = false := by simp; omega
      by_cases hlt : val 18446744073709551616 zs < val 18446744073709551616 ys
      · have hc1 : cmpN zs ys = -1 := by rw [hcn, cmpZ_lt hlt]
        have HP : Hid (ResDiv zs ys [] zs 0) := HMK.out [] zs (Digs.nil _) hzd (.inl rfl) (right_top hr) (by rw [val_nil]; omega) hlt
        clear hcn hlt hzl hyl
        go_enter Try.func53, Try.ntmps53
        go_wp2_with fail
        refine (right_any _ _ _ _ _ h).mono ?_
        rintro e w' ⟨rfl, rfl⟩
        go_wp2_with fail
        refine (right_any _ _ _ _ _ h').mono ?_
        rintro e w0 ⟨rfl, rfl⟩
        go_wp2_with fail
        refine (cmp_any _ _ _ _ _ _ _ _ _ h h').mono ?_
        rintro e w1 ⟨rfl, hb1⟩
        rw [hc1]
        clear hc1
        go_wp2_with fail
        refine (clone_any _ _ _ _ _ (h.below hb1) (by omega)).mono ?_
        rintro e w2 ⟨da, dn, dc, rfl, hd, hfr, hb2⟩
        have hb12 := hb1.trans (hb2.mono hb1.size)
        have hfr' : Fresh w0 w2 da dn := fun hp => by
          obtain ⟨g, e1, e2, e3⟩ := hfr hp
          exact ⟨g, zs, e1, by have := hb1.size; omega, e3, by have := hd.hlen; omega⟩
        clear hfr
        go_wp2_with fail
        go_ret3
        exact ⟨none, 0, 0, [], _, _, _, _, 0, rfl, Nums.nil _, hd, HP.out, Fresh.none _ _, hfr', fun hp => absurd hp (Nat.lt_irrefl _), hb12⟩
      · have hc1 : ¬ cmpN zs ys < 0 := by rw [hcn]; unfold cmpZ; rw [if_neg hlt]; split <;> omega
        have hle : lb ≤ la := by
          by_cases hc : lb ≤ la
          · exact hc
          · exact absurd (val_lt_of_len (B := 18446744073709551616) (by decide) hzd hyd (right_top hr') (by omega)) hlt
        clear hcn hlt
        obtain ⟨cc, hcc⟩ : ∃ cc, cc = cmpN zs ys := ⟨_, rfl⟩
        rw [← hcc] at hc1
        have HC : Hid (cc = cmpN zs ys) := hcc
        clear hcc
        have htop : ys.getD (lb - 1) 0 ≠ 0 := by
          rcases right_top hr' with e | e
          · rw [e] at hyl; simp at hyl; omega
          · rw [hyl] at e; exact e
        by_cases h1 : lb = 1
        · subst h1
          obtain ⟨d, rfl⟩ : ∃ d, ys = [d] := List.length_eq_one_iff.1 hyl
          have hd0 : d ≠ 0 := by simpa using htop
          have hdb := hyd d (by simp)
          obtain ⟨b1, o1, rfl, hc⟩ := h'.cells (by omega)
          have hdv : val 18446744073709551616 [d] = d := by simp [val]
          have HZL : Hid (zs.length = la) := hzl
          clear hzl hyl htop
          go_enter Try.func53, Try.ntmps53
          go_wp2_with fail
          refine (right_any _ _ _ _ _ h).mono ?_
          rintro e w' ⟨rfl, rfl⟩
          go_wp2_with fail
          refine (right_any _ _ _ _ _ h').mono ?_
          rintro e w0 ⟨rfl, rfl⟩
          go_wp2_with fail
          refine (cmp_any _ _ _ _ _ _ _ _ _ h h').mono ?_
          rintro e w1 ⟨rfl, hb1⟩
          rw [← HC.out]
          go_wp2_with fail
          refine (clone_any _ _ _ _ _ (h.below hb1) (by omega)).mono ?_
          rintro e w2 ⟨da, dn, dc, rfl, hd, hfr, hb2⟩
          have hb12 := hb1.trans (hb2.mono hb1.size)
          obtain rfl : la = dn := by have := hd.hlen; have := HZL.out; omega
          have hy2 := h'.below hb12
          obtain ⟨g, hs, hgge, hblk⟩ := hfr (by omega)
          subst hs
          have c2 : w2.cell? ⟨b1, o1, none⟩ = some (.int .u64 d) := by
            obtain ⟨b3, o3, e3, hc3⟩ := hy2.cells (by omega)
            cases e3
            exact hc3 0 (by omega)
          have hdm := hd.hmax
          have hdc := hd.hcap
          have hg0 : w0.heap.size ≤ g := by have := hb1.size; omega
          clear hfr hc
          go_wp2_with fail
          refine (divideBy_any (some ⟨g, 0, none⟩) g la dc zs d _ (fun _ => rfl) (fun _ => hblk) hzd (by have := HZL.out; omega) (by omega) (by omega)).mono ?_
          rintro e w3 ⟨M, r, rfl, hbM, hMd, hMl, -, hrr, hv, hg3⟩
          rw [vs_all _ M (by have := HZL.out; omega), vs_all _ zs (by have := HZL.out; omega)] at hv
          have hb3 := hb12.trans (below_of_grown hg3 hg0 hb12.size)
          have hbM' := hbM (by omega)
          have hM : Nums w3 (some ⟨g, 0, none⟩) la dc M := ⟨by rw [hMl]; exact HZL.out, hdc, hdm, fun hp => ⟨g, 0, rfl, fun i hi => by rw [Nat.zero_add]; exact hbM'.cell (by have := HZL.out; omega)⟩, hMd⟩
          have HV : Hid (val 18446744073709551616 zs = d * val 18446744073709551616 M + r ∧ M.length = zs.length) := ⟨hv, hMl⟩
          clear hv hMl
          go_wp2_with fail
          refine (trimmed_any _ _ _ _ _ hM).mono ?_
          rintro e w4 ⟨a', k, cap', rfl, htr, hk, hw4⟩
          subst hw4
          go_wp2_with fail
          refine (of_new r _ ⟨hrr.1, by omega⟩).mono ?_
          rintro e w5 ⟨a2, k2, c2', rfl, hn2, hfr2, hb5⟩
          have hkl : k ≤ la := by have := htr.le; have := hM.hlen; omega
          have hn4 : Nums w5 a' k cap' (M.take k) := by
            rcases hk with ⟨rfl, rfl, rfl⟩ | ⟨_, rfl, rfl⟩
            · simpa using Nums.nil w5
            · exact (hM.below hb5).take hkl
          have hlt4 := hbM'.lt
          have hbM5 := hbM'.below hb5 hlt4
          have hfr4 : Fresh w0 w5 a' k := fun hp => by
            rcases hk with ⟨rfl, _, _⟩ | ⟨_, rfl, _⟩
            · exact absurd hp (Nat.lt_irrefl _)
            · exact ⟨g, M, rfl, hg0, hbM5, by have := HV.out.2; have := HZL.out; omega⟩
          have hfr5 : Fresh w0 w5 a2 k2 := fun hp => by
            obtain ⟨g5, L, e1, e2, e3, e4⟩ := hfr2 hp
            exact ⟨g5, L, e1, by have := hb3.size; omega, e3, e4⟩
          have hsep : 0 < k → 0 < k2 → ∀ x y, a' = some x → a2 = some y → x.block ≠ y.block := fun p1 p2 x y e1 e2 => by
            obtain ⟨g5, L, e3, e4, _, _⟩ := hfr2 p2
            rcases hk with ⟨rfl, _, _⟩ | ⟨_, rfl, _⟩
            · exact absurd p1 (Nat.lt_irrefl _)
            · cases e1
              rw [e3] at e2
              cases e2
              exact Nat.ne_of_lt (Nat.lt_of_lt_of_le hlt4 e4)
          have hrv : val 18446744073709551616 (ofZ r) = r := by unfold ofZ; split <;> simp_all [val]
          have hrt : Top (ofZ r) := by unfold ofZ Top; split <;> simp_all
          have HR : Hid (ResDiv zs [d] (M.take k) (ofZ r) 0) := HMK.out _ _ (hMd.take k) hn2.digs htr.Top hrt (by rw [htr.val, hdv, hrv, HV.out.1, Int.mul_comm]) (by rw [hrv, hdv]; exact hrr.2)
          have HBB : Hid (Below w0.heap.size w0 w5) := hb3.trans (hb5.mono hb3.size)
          clear htr hk hrv hrt hb5 hb3 hb12 hb1 hb2 hM hbM hbM' hbM5 hdv
          go_wp2_with fail
          go_ret3
          exact ⟨_, _, _, _, _, _, _, _, _, rfl, hn4, hn2, HR.out, hfr4, hfr5, hsep, HBB.out⟩
        · obtain ⟨n, rfl⟩ : ∃ n, lb = n + 1 := ⟨lb - 1, by omega⟩
          have hn1 : n ≠ 0 := by omega
          have hb1' : (((n + 1 : Nat) : Int) == 1) = false := by simp; omega
          have hb2' : ((n : Int) + 1 == 1) = false := by simp; omega
          have hb3' : ((n : Int) + 1 == 0) = false := by simp; omega
          have htp : 0 < ys.getD n 0 := by have := (hyd.getD (by decide) n).1; simp only [Nat.add_sub_cancel] at htop; omega
          clear hzl hyl htop
          go_enter Try.func53, Try.ntmps53
          go_wp2_with fail
          refine (right_any _ _ _ _ _ h).mono ?_
          rintro e w' ⟨rfl, rfl⟩
          go_wp2_with fail
          refine (right_any _ _ _ _ _ h').mono ?_
          rintro e w0 ⟨rfl, rfl⟩
          go_wp2_with fail
          refine (cmp_any _ _ _ _ _ _ _ _ _ h h').mono ?_
          rintro e w1 ⟨rfl, hb1⟩
          rw [← HC.out]
          go_wp2_with fail
          refine (longDivision_any _ _ _ _ n _ _ _ _ (h.below hb1) (h'.below hb1) (by omega) (by omega) htp).mono ?_
          rintro e w2 ⟨a1, k1, c1, qs, a2, k2, c2, rs, rfl, hq, hrn, hz, hf1, hf2, hsep, hb2⟩
          have hb12 := hb1.trans (hb2.mono hb1.size)
          have HR : Hid (ResDiv zs ys qs rs 0) := HMK.out _ _ hq.digs hrn.digs hz.1 hz.2.1 hz.2.2.1 hz.2.2.2
          have hg1 : Fresh w0 w2 a1 k1 := fun hp => by
            obtain ⟨g5, L, e1, e2, e3, e4⟩ := hf1 hp
            exact ⟨g5, L, e1, by have := hb1.size; omega, e3, e4⟩
          have hg2 : Fresh w0 w2 a2 k2 := fun hp => by
            obtain ⟨g5, L, e1, e2, e3, e4⟩ := hf2 hp
            exact ⟨g5, L, e1, by have := hb1.size; omega, e3, e4⟩
          clear hz hf1 hf2
          go_wp2_with fail
          go_ret3
          exact ⟨_, _, _, _, _, _, _, _, _, rfl, hq, hrn, HR.out, hg1, hg2, hsep, hb12⟩
end Go.Proofs.Ytaipkganijofjab
