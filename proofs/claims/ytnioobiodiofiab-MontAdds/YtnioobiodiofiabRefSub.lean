/-
  Contracts of the document's sub and Sub.
-/
import Derived.Test.YtnioobiodiofiabSub
import Derived.Test.YtnioobiodiofiabOut
namespace Go.Proofs.Ytnioobiodiofiab
open Go.RowKit

theorem rsub_step {os : List Int} {zs ys : List Int} {k : Nat} {bw x y : Int} (hol : os.length = k) (hod : Digs 65536 os) (hzd : Digs 65536 zs) (hyd : Digs 65536 ys) (hb : 0 ≤ bw ∧ bw ≤ 1)
    (hv : val 65536 os - 65536 ^ k * bw = vs 65536 (fun i => zs.getD i 0) k - vs 65536 (fun i => ys.getD i 0) k) (hx : x = zs.getD k 0) (hy : y = ys.getD k 0) :
    (os ++ [(65536 + x - y - bw) % 65536]).length = k + 1 ∧ Digs 65536 (os ++ [(65536 + x - y - bw) % 65536]) ∧ (0 ≤ 1 - (65536 + x - y - bw) / 65536 ∧ 1 - (65536 + x - y - bw) / 65536 ≤ 1) ∧
    val 65536 (os ++ [(65536 + x - y - bw) % 65536]) - 65536 ^ (k + 1) * (1 - (65536 + x - y - bw) / 65536) = vs 65536 (fun i => zs.getD i 0) (k + 1) - vs 65536 (fun i => ys.getD i 0) (k + 1) := by
  have bx : 0 ≤ x ∧ x < 65536 := by rw [hx]; exact hzd.getD (by decide) _
  have by' : 0 ≤ y ∧ y < 65536 := by rw [hy]; exact hyd.getD (by decide) _
  refine ⟨by simp [hol], hod.snoc ⟨by omega, by omega⟩, ⟨by omega, by omega⟩, ?_⟩
  simp only [vs]
  rw [val_snoc, hol, ← hx, ← hy, Int.pow_succ, Int.mul_assoc]
  generalize (65536 : Int) ^ k = P at hv ⊢
  have e0 : (65536 + x - y - bw) % 65536 - 65536 * (1 - (65536 + x - y - bw) / 65536) = x - y - bw := by omega
  generalize (65536 + x - y - bw) % 65536 = r at e0 ⊢
  generalize 1 - (65536 + x - y - bw) / 65536 = t at e0 ⊢
  have e : P * r - P * (65536 * t) = P * x - P * y - P * bw := by rw [← Int.mul_sub, e0, Int.mul_sub, Int.mul_sub]
  omega

set_option maxHeartbeats 800000 in
theorem rsub_any (a b : Option Addr) (la ca lb cb : Nat) (zs ys : List Int) (w : World) (h : Nums w a la ca zs) (h' : Nums w b lb cb ys) (dz : Digs 65536 zs) (dy : Digs 65536 ys) (ty : Top ys) (hge : val 65536 ys ≤ val 65536 zs) (hla : la ≤ 100000) :
    Calls Try.prog 66 #[.slice a la ca, .slice b lb cb] w fun e w' => ∃ a' n cap' ds, e = .returned (.slice a' n cap') ∧ Nums w' a' n cap' ds ∧ Digs 65536 ds ∧ Top ds ∧ n ≤ la ∧
      (a' = none → cap' = 0) ∧ val 65536 ds = val 65536 zs - val 65536 ys ∧ Below w.heap.size w w' := by
  have HL : Hid (zs.length = la ∧ ys.length = lb) := ⟨h.hlen, h'.hlen⟩
  have HG : Hid (val 65536 ys ≤ val 65536 zs) := hge
  clear hge
  go_enter Try.func66, Try.ntmps66
  go_wp2
  go_loopw [5, 6, 7] (fun v cv i wr => ∃ k : Nat, k ≤ la ∧ i = .int .i64 k ∧ ∃ os bw, cv = .int .u64 bw ∧ Own wr w.heap.size v os ∧ os.length = k ∧ Digs 65536 os ∧ (0 ≤ bw ∧ bw ≤ 1) ∧
      val 65536 os - 65536 ^ k * bw = vs 65536 (fun i => zs.getD i 0) k - vs 65536 (fun i => ys.getD i 0) k ∧ Below w.heap.size w wr) (fun _ _ i _ => la - (intOf i).toNat)
  case atStart => exact ⟨0, Nat.zero_le _, rfl, [], 0, rfl, Own.nil _ _, rfl, Digs.nil _, by omega, by simp [vs, val], Below.refl _ _⟩
  case round =>
    obtain ⟨k, hk, rfl, os, bw, rfl, hown, hol, hod, hbw, hv, hb⟩ := hrel
    obtain ⟨x, hx⟩ : ∃ x, x = zs.getD k 0 := ⟨_, rfl⟩
    obtain ⟨y, hy⟩ : ∃ y, y = ys.getD k 0 := ⟨_, rfl⟩
    have bx : 0 ≤ x ∧ x < 65536 := by rw [hx]; exact dz.getD (by decide) _
    have by' : 0 ≤ y ∧ y < 65536 := by rw [hy]; exact dy.getD (by decide) _
    have R := rsub_step hol hod dz dy hbw hv hx hy
    have HR : Hid ((os ++ [(65536 + x - y - bw) % 65536]).length = k + 1 ∧ Digs 65536 (os ++ [(65536 + x - y - bw) % 65536]) ∧ (0 ≤ 1 - (65536 + x - y - bw) / 65536 ∧ 1 - (65536 + x - y - bw) / 65536 ≤ 1) ∧
      val 65536 (os ++ [(65536 + x - y - bw) % 65536]) - 65536 ^ (k + 1) * (1 - (65536 + x - y - bw) / 65536) = vs 65536 (fun i => zs.getD i 0) (k + 1) - vs 65536 (fun i => ys.getD i 0) (k + 1)) := R
    have HX : Hid (x = zs.getD k 0 ∧ y = ys.getD k 0) := ⟨hx, hy⟩
    have HV : Hid (os.length = k ∧ Digs 65536 os ∧ val 65536 os - 65536 ^ k * bw = vs 65536 (fun i => zs.getD i 0) k - vs 65536 (fun i => ys.getD i 0) k) := ⟨hol, hod, hv⟩
    have holb : os.length < 1000000 := by omega
    have hz1 := h.below hb
    have hy1 := h'.below hb
    clear R hx hy hol hod hv
    by_cases hlt1 : k < la
    · have hi1 : (k : Int) < (la : Int) := by omega
      obtain ⟨b1, o1, rfl, hc⟩ := hz1.cells (by omega)
      have c1 : wr.cell? ⟨b1, o1 + k, none⟩ = some (.int .u64 x) := by rw [HX.out.1]; exact hc k hlt1
      clear hc
      have hdg := fun wx (hn : Nums wx b lb cb ys) => digit_any b lb cb ys k wx hn
      rw [← HX.out.2] at hdg
      have HDG : Hid (∀ wx, Nums wx b lb cb ys → Calls Try.prog 43 #[.slice b lb cb, .int .i64 (k : Int)] wx fun e w' => e = .returned (.int .u64 y) ∧ w' = wx) := hdg
      clear hdg
      go_wp2_with fail
      go_quiet ((go_at_call 43; exact Calls.quiet_of_same (HDG.out _ ⟨hy1.hlen, hy1.hcap, hy1.hmax, hy1.cells, hy1.word⟩)))
      have hown1 := hown.drewN nq
      have hb1 := below_drewN hb nq
      generalize wr.drewN nq = w1 at hown1 hb1 ⊢
      clear hown hb c1 hz1 hy1
      go_wp2_with (at_builtin; refine wpList_app1 _ rfl _ _ 48 rfl Try.underlying48 w.heap.size _ os rfl (hown1.alloc _) ⟨w1.heap.size, 0, none⟩ ((65536 + x - y - bw) % 65536) rfl ?c1 holb w ?c2 ?c3 ?_)
      try (case c1 => simp)
      case c2 => have := hb1.size; simp; omega
      case c3 => exact hb1.alloc hb1.size _
      intro v' w2 hown2 hb2
      clear hown1 hb1
      go_wp2
      go_roundw
      case rel => exact ⟨k + 1, by omega, by go_num, _, _, rfl, hown2, HR.out.1, HR.out.2.1, HR.out.2.2.1, HR.out.2.2.2, hb2⟩
      case measure => simp [intOf]; omega
    · obtain rfl : k = la := by omega
      have hfin := sub_end (M := os) (B := 65536) (by decide) dz dy ty HG.out HV.out.2.1 HL.out.1 (by have := HL.out; have := HV.out.1; omega) hbw (by
        simp only [Nat.zero_add]
        rw [vs_all _ os (by have := HV.out.1; omega)]; exact HV.out.2.2)
      have HF : Hid (val 65536 os = val 65536 zs - val 65536 ys) := hfin
      clear hfin
      obtain ⟨a1, n1, cap1, rfl, hnums, hz⟩ := hown.numsZ HV.out.2.1.wide
      clear hown
      go_wp2_with fail
      refine (cut_any _ _ _ _ _ hnums).mono ?_
      rintro e w' ⟨q, rfl, htr, rfl⟩
      have hq : q ≤ n1 := by have := htr.le; have := hnums.hlen; omega
      have hn1 : n1 = k := by have := hnums.hlen; have := HV.out.1; omega
      have HT : Hid (Trim os q ∧ q ≤ k) := ⟨htr, by omega⟩
      clear htr hn1
      go_wp2_with fail
      go_ret
      exact ⟨_, _, _, os.take q, rfl, hnums.take hq, HV.out.2.1.take q, HT.out.1.Top, HT.out.2, hz, by rw [HT.out.1.val]; exact HF.out, hb⟩
end Go.Proofs.Ytnioobiodiofiab
