/-
  Contracts of slices.Clone and nat.Sub: a copy in new memory; the difference of two numbers.
-/
import Derived.Test.YtaipkganijofjabTwo
import Derived.Test.YtaipkganijofjabTakeFrom
import Derived.Lib.SliceRun
namespace Go.Proofs.Ytaipkganijofjab
open Go.RowKit

theorem Own.fresh {w : World} {base : Nat} {v : Value} {zs : List Int} (h : Own w base v zs) (hd : Digs 18446744073709551616 zs) :
    ∃ a n cap, v = .slice a n cap ∧ Nums w a n cap zs ∧ (0 < n → ∃ g, a = some ⟨g, 0, none⟩ ∧ base ≤ g ∧ Blk w g zs) := by
  obtain ⟨h1, h2⟩ := h
  rcases h2 with ⟨rfl, hn⟩ | ⟨g, cap, cur, rfl, hb, hg, hnc, hcm, hcs, htk⟩
  · have e : zs = [] := List.eq_nil_of_length_eq_zero hn
    subst e
    exact ⟨none, 0, 0, rfl, Nums.nil _, fun h => absurd h (Nat.lt_irrefl _)⟩
  · have hblk : Blk w g zs := ⟨cur, hg, by simpa using htk⟩
    refine ⟨some ⟨g, 0, none⟩, zs.length, cap, rfl, ⟨rfl, hnc, hcm, fun _ => ⟨g, 0, rfl, fun i hi => ?_⟩, hd⟩, fun _ => ⟨g, rfl, hb, hblk⟩⟩
    rw [Nat.zero_add]; exact hblk.cell hi

set_option maxHeartbeats 400000 in
theorem clone_any (a : Option Addr) (len cap : Nat) (zs : List Int) (w : World) (h : Nums w a len cap zs) (hn : len ≤ 100000) :
    Calls Try.prog 28 #[.slice a len cap] w fun e w' => ∃ a' n cap', e = .returned (.slice a' n cap') ∧ Nums w' a' n cap' zs ∧ (0 < n → ∃ g, a' = some ⟨g, 0, none⟩ ∧ w.heap.size ≤ g ∧ Blk w' g zs) ∧ Below w.heap.size w w' := by
  have hd := h.digs
  cases a with
  | none =>
    have hm : len = 0 := by
      rcases Nat.eq_zero_or_pos len with h0 | h0
      · exact h0
      · obtain ⟨b, off, e, _⟩ := h.cells h0; cases e
    subst hm
    have e : zs = [] := List.eq_nil_of_length_eq_zero h.hlen
    subst e
    have heq := fun wx => Lib.run_eql_slice_nil (P := Try.prog) wx 23 29 none 0 cap 0 0 Try.underlying23
    go_enter Try.func28, Try.ntmps28
    go_wp2
    go_ret
    exact ⟨none, 0, 0, rfl, Nums.nil _, fun h => absurd h (Nat.lt_irrefl _), Below.refl _ _⟩
  | some x =>
    have heq := fun wx => Lib.run_eql_slice_nil (P := Try.prog) wx 23 29 (some x) len cap 0 0 Try.underlying23
    go_enter Try.func28, Try.ntmps28
    have hown := Own.empty w
    have hb0 := (Below.refl w.heap.size w).alloc (Nat.le_refl _) (.cells #[] 29)
    have h1 := h.below hb0
    go_wp2_with (at_builtin; refine wpList_appN _ rfl _ _ 23 rfl Try.underlying23 w.heap.size _ [] rfl hown (some x) len cap zs rfl h1 ?_ ?_ w ?_ hb0 ?_)
    · intro e; cases e
    · simp; omega
    · simp
    · intro v' w2 hown1 hb1
      obtain ⟨a1, n1, cap1, rfl, hn1, hfr⟩ := hown1.fresh hd
      clear hown1 hown h1 hb0
      go_wp2
      go_ret
      exact ⟨_, _, _, rfl, hn1, hfr, hb1⟩

/-- What is told of a difference. -/
def ResSub (zs ys : List Int) (ls : List Int) (err : Int) : Prop :=
  if rightB zs && rightB ys then (if val 18446744073709551616 zs < val 18446744073709551616 ys then err = 2 ∧ ls = [] else Res (val 18446744073709551616 zs - val 18446744073709551616 ys) ls err) else err = 1 ∧ ls = []

theorem ResSub.unique {zs ys : List Int} {ls ks : List Int} {e f : Int} (h : ResSub zs ys ls e) (h' : ResSub zs ys ks f) : ls = ks ∧ e = f := by
  unfold ResSub at h h'
  split at h
  · rename_i hc
    rw [if_pos hc] at h'
    split at h
    · rename_i hc2
      rw [if_pos hc2] at h'
      obtain ⟨rfl, rfl⟩ := h
      obtain ⟨rfl, rfl⟩ := h'
      exact ⟨rfl, rfl⟩
    · rename_i hc2
      rw [if_neg hc2] at h'
      exact h.unique h'
  · rename_i hc
    rw [if_neg hc] at h'
    obtain ⟨rfl, rfl⟩ := h
    obtain ⟨rfl, rfl⟩ := h'
    exact ⟨rfl, rfl⟩

theorem sub_end {B : Int} (hB : 0 < B) {zs ys M : List Int} {n : Nat} {bw : Int} (hz : Digs B zs) (hy : Digs B ys) (ty : Top ys) (hge : val B ys ≤ val B zs) (hM : Digs B M) (hzl : zs.length = n) (hMl : M.length = zs.length) (hbw : 0 ≤ bw ∧ bw ≤ 1)
    (hv : vs B (fun i => M.getD (0 + i) 0) n - B ^ n * bw = vs B (fun i => zs.getD (0 + i) 0) n - vs B (fun i => ys.getD i 0) n) : val B M = val B zs - val B ys := by
  have hle : ys.length ≤ n := by
    by_cases h : ys.length ≤ n
    · exact h
    · have := val_lt_of_len hB hz hy ty (by omega); omega
  simp only [Nat.zero_add] at hv
  rw [vs_all _ M (by omega), vs_all _ zs (by omega), vs_all _ ys hle] at hv
  have b1 := val_lt hB hM
  rw [hMl, hzl] at b1
  have hc : bw = 0 ∨ bw = 1 := by omega
  rcases hc with rfl | rfl <;> omega

set_option maxHeartbeats 800000 in
theorem sub_any (a b : Option Addr) (la ca lb cb : Nat) (zs ys : List Int) (w : World) (h : Nums w a la ca zs) (h' : Nums w b lb cb ys) :
    Calls Try.prog 108 #[.slice a la ca, .slice b lb cb] w fun e w' => ∃ a' n cap' ls err, e = .returned (.tuple #[.slice a' n cap', .int .i64 err]) ∧ Nums w' a' n cap' ls ∧
      ResSub zs ys ls err ∧ Fresh w w' a' n ∧ Below w.heap.size w w' := by
  have nothing : Fresh w w none 0 := fun hp => absurd hp (Nat.lt_irrefl _)
  cases hr : rightB zs with
  | false =>
    go_enter Try.func108, Try.ntmps108
    go_wp2_with fail
    refine (right_any _ _ _ _ _ h).mono ?_
    rintro e w' ⟨rfl, rfl⟩
    go_wp2_with fail
    go_ret2
    exact ⟨none, 0, 0, [], 1, rfl, Nums.nil _, by simp [ResSub, hr], fun hp => absurd hp (Nat.lt_irrefl _), Below.refl _ _⟩
  | true =>
  cases hr' : rightB ys with
  | false =>
    go_enter Try.func108, Try.ntmps108
    go_wp2_with fail
    refine (right_any _ _ _ _ _ h).mono ?_
    rintro e w' ⟨rfl, rfl⟩
    go_wp2_with fail
    refine (right_any _ _ _ _ _ h').mono ?_
    rintro e w' ⟨rfl, rfl⟩
    go_wp2_with fail
    go_ret2
    exact ⟨none, 0, 0, [], 1, rfl, Nums.nil _, by simp [ResSub, hr'], fun hp => absurd hp (Nat.lt_irrefl _), Below.refl _ _⟩
  | true =>
    have hla : la ≤ 64 := by have := right_len hr; have := h.hlen; omega
    have hlb : lb ≤ 64 := by have := right_len hr'; have := h'.hlen; omega
    have hcn : cmpN zs ys = cmpZ (val 18446744073709551616 zs) (val 18446744073709551616 ys) := by simp [cmpN, hr, hr']
    by_cases hlt : val 18446744073709551616 zs < val 18446744073709551616 ys
    · have hc1 : cmpN zs ys = -1 := by rw [hcn, cmpZ_lt hlt]
      clear hcn
      have HP : Hid (ResSub zs ys [] 2) := (show ResSub zs ys [] 2 by simp [ResSub, hr, hr', hlt])
      clear hlt
      go_enter Try.func108, Try.ntmps108
      go_wp2_with fail
      refine (right_any _ _ _ _ _ h).mono ?_
      rintro e w' ⟨rfl, rfl⟩
      go_wp2_with fail
      refine (right_any _ _ _ _ _ h').mono ?_
      rintro e w0 ⟨rfl, rfl⟩
      go_wp2_with fail
      refine (cmp_any _ _ _ _ _ _ _ _ _ h h').mono ?_
      rintro e w1 ⟨rfl, hb1⟩
      rw [hc1]
      clear hc1
      go_wp2_with fail
      go_ret2
      exact ⟨none, 0, 0, [], 2, rfl, Nums.nil _, HP.out, fun hp => absurd hp (Nat.lt_irrefl _), hb1⟩
    · have hc1 : ¬ cmpN zs ys < 0 := by rw [hcn]; unfold cmpZ; rw [if_neg hlt]; split <;> omega
      clear hcn
      have HG : Hid (¬ val 18446744073709551616 zs < val 18446744073709551616 ys) := hlt
      clear hlt
      obtain ⟨cc, hcc⟩ : ∃ cc, cc = cmpN zs ys := ⟨_, rfl⟩
      rw [← hcc] at hc1
      have HC : Hid (cc = cmpN zs ys) := hcc
      clear hcc
      go_enter Try.func108, Try.ntmps108
      go_wp2_with fail
      refine (right_any _ _ _ _ _ h).mono ?_
      rintro e w' ⟨rfl, rfl⟩
      go_wp2_with fail
      refine (right_any _ _ _ _ _ h').mono ?_
      rintro e w0 ⟨rfl, rfl⟩
      go_wp2_with fail
      refine (cmp_any _ _ _ _ _ _ _ _ _ h h').mono ?_
      rintro e w1 ⟨rfl, hb1⟩
      rw [← HC.out]
      go_wp2_with fail
      refine (clone_any _ _ _ _ _ (h.below hb1) (by omega)).mono ?_
      rintro e w2 ⟨da, dn, dc, rfl, hd, hfr, hb2⟩
      have hb12 := hb1.trans (hb2.mono hb1.size)
      have hdl := hd.hlen
      have hzl := h.hlen
      obtain rfl : la = dn := by omega
      have hy2 := h'.below hb12
      have HD : Hid (zs.length = la) := hdl
      clear hdl hzl
      obtain ⟨g, hs, hblk, hgge⟩ : ∃ g, (0 < la → da = some ⟨g, 0, none⟩) ∧ (0 < la → Blk w2 g zs) ∧ w0.heap.size ≤ g := by
        rcases Nat.eq_zero_or_pos la with h0 | h0
        · exact ⟨w0.heap.size, fun hp => absurd hp (by omega), fun hp => absurd hp (by omega), Nat.le_refl _⟩
        · obtain ⟨g', e, hge, hbk⟩ := hfr h0
          exact ⟨g', fun _ => e, fun _ => hbk, by have := hb1.size; omega⟩
      have hap : 0 < lb → Apart b g := fun hp x hx => by
        obtain ⟨b1, o1, rfl, hc⟩ := h'.cells hp
        have := World.block_lt_of_cell? w0 _ (hc 0 hp)
        cases hx
        simp at this ⊢; omega
      have hzd := h.digs
      have hyd := h'.digs
      have hty := right_top hr'
      have hdm := hd.hmax
      have hdc := hd.hcap
      clear hfr
      go_wp2_with fail
      refine (takeFrom_any da g 0 la dc zs b lb cb ys _ hs hblk hzd (by have := HD.out; omega) (by omega) hy2 hap).mono ?_
      rintro e w3 ⟨M, bw, rfl, hbM, hMd, hMl, -, hbw, hv, hg3⟩
      have hval := sub_end (by decide) hzd hyd hty (by have := HG.out; omega) hMd HD.out hMl hbw hv
      have hb3 := hb12.trans (below_of_grown hg3 hgge hb12.size)
      have hM : Nums w3 da la dc M := ⟨by rw [hMl]; exact HD.out, hdc, hdm, fun hp => ⟨g, 0, hs hp, fun i hi => by rw [Nat.zero_add]; exact (hbM hp).cell (by have := HD.out; omega)⟩, hMd⟩
      have HV : Hid (val 18446744073709551616 M = val 18446744073709551616 zs - val 18446744073709551616 ys ∧ M.length = zs.length) := ⟨hval, hMl⟩
      clear hv hval hMl
      go_wp2_with fail
      refine (trimmed_any _ _ _ _ _ hM).mono ?_
      rintro e w4 ⟨a', k, cap', rfl, htr, hk, rfl⟩
      have hkl : k ≤ la := by have := htr.le; have := hM.hlen; omega
      have hn4 : Nums w4 a' k cap' (M.take k) := by
        rcases hk with ⟨rfl, rfl, rfl⟩ | ⟨_, rfl, rfl⟩
        · simpa using Nums.nil w4
        · exact hM.take hkl
      have hfr4 : Fresh w0 w4 a' k := fun hp => by
        rcases hk with ⟨rfl, _, _⟩ | ⟨_, rfl, _⟩
        · exact absurd hp (Nat.lt_irrefl _)
        · exact ⟨g, M, hs (by omega), hgge, hbM (by omega), by have := HV.out.2; have := HD.out; omega⟩
      have hres : Res (val 18446744073709551616 zs - val 18446744073709551616 ys) (M.take k) 0 := .inl ⟨rfl, hMd.take k, htr.Top, by rw [hn4.hlen]; omega, htr.val.trans HV.out.1⟩
      have HR : Hid (ResSub zs ys (M.take k) 0) := (show ResSub zs ys (M.take k) 0 by rw [ResSub, hr, hr', Bool.and_true, if_pos rfl, if_neg (Int.not_lt.2 HG.out)]; exact hres)
      clear hres htr hk
      go_wp2_with fail
      go_ret2
      exact ⟨_, _, _, _, _, rfl, hn4, HR.out, hfr4, hb3⟩
end Go.Proofs.Ytaipkganijofjab
