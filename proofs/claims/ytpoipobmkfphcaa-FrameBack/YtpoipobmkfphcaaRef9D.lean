/-
  The document's reader: Bytes.
-/
import Derived.Test.YtpoipobmkfphcaaRef9C
import Derived.Test.YtpoipobmkfphcaaC9Own
import Derived.Test.YtpoipobmkfphcaaC9Back
import Derived.Test.YtpoipobmkfphcaaTapeP
import Derived.Deep.RegionHeld3
namespace Go.Proofs.Ytpoipobmkfphcaa
open Go.RowKit

theorem rbyt_end {w wz w2 : World} {g k m : Nat} {most : Int} {E L : List Int} {v : Value} (hA : RRdAt wz g (L.drop (k + m))) (hgw : w.grownBy wz (some g)) (hb2 : Below wz.heap.size wz w2) (hE : E = (L.drop k).take m) (hd : Digs 256 E)
    (hR : ResBytR L most ((L.drop k).take m) 0 (L.drop (k + m))) (hown : BOwn w2 wz.heap.size v ([] ++ E)) :
    ∃ a1 n1 c1, v = .slice a1 n1 c1 ∧ BytT RRdAt w g L most (.returned (.tuple #[.slice a1 n1 c1, .int .i64 0])) w2 := by
  subst hE
  obtain ⟨a1, n1, c1, rfl, q1, qb, nn⟩ := hown.fresh (by rw [List.nil_append]; exact hd)
  rw [List.nil_append] at q1
  refine ⟨a1, n1, c1, rfl, a1, n1, c1, _, 0, _, rfl, ⟨q1, nil9 nn, fun ad e h0 => by
    obtain ⟨q, e2, hq, cur, hqc, -⟩ := qb h0
    rw [e] at e2
    cases e2
    exact ⟨Nat.le_trans hgw.size hq, cur, hqc⟩⟩, hR, hA.below hb2, ?_⟩
  refine ⟨hb2.os.trans hgw.os, hb2.tape.trans hgw.tape, hb2.output.trans hgw.output, Nat.le_trans hgw.size hb2.size, fun j hj hne => ?_⟩
  rw [hb2.block j (Nat.lt_of_lt_of_le hj hgw.size), hgw.block j hj hne]

set_option maxRecDepth 20000 in
set_option maxHeartbeats 6400000 in
theorem r9rbyt_any (g : Nat) (L : List Int) (most : Int) (w : World) (h : RRdAt w g L) (hmost : -9223372036854775808 ≤ most ∧ most < 9223372036854775808) :
    Calls Try.prog 30 #[.pointer (some ⟨g, 0, none⟩), .int .i64 most] w fun e w' => BytT RRdAt w g L most e w' := by
  have HT : Hid (RRdAt w g L) := h
  go_enter Try.func30, Try.ntmps30
  go_wp2_with fail
  refine (r9next_any g L _ HT.out).mono ?_
  rintro e w1 ⟨n, k, rfl, hN, hb⟩
  have hA := HT.out.below hb
  have sn : ∀ j : Nat, (k = 0 ∨ most < 0 ∨ most < (n : Int) ∨ L.length - k < n) → Hid (BytT RRdAt w g L most (.returned (.tuple #[.slice none 0 0, .int .i64 13])) (w1.drewN j)) := fun j hc =>
    ⟨none, 0, 0, [], 13, L, rfl, ⟨Byts.nil _, fun _ => rfl, fun _ e => (by cases e)⟩, ⟨n, k, hN, .inl ⟨hc, rfl, rfl, rfl⟩⟩, hA.below ⟨rfl, rfl, rfl, Nat.le_refl _, fun _ _ => rfl⟩, grown_of_below (w' := w1.drewN j) ⟨hb.os, hb.tape, hb.output, hb.size, hb.block⟩ _⟩
  by_cases hk0 : k = 0
  · have HR := fun j => sn j (.inl hk0)
    have hki : ((k : Int) == 0) = true := by simp; omega
    clear hN hA sn hk0
    go_wp2_with fail
    go_quiet (fail)
    go_wp2
    go_ret2
    exact (HR _).out
  obtain ⟨n1, n2, -⟩ := hN.pos hk0
  have hki : ((k : Int) == 0) = false := by simp; omega
  by_cases hm0 : most < 0
  · have HR := fun j => sn j (.inr (.inl hm0))
    have hm0i : decide (most < 0) = true := decide_eq_true hm0
    clear hN hA sn hk0 hm0
    go_wp2_with fail
    go_quiet (fail)
    go_wp2
    go_ret2
    exact (HR _).out
  have hm0i : decide (most < 0) = false := decide_eq_false hm0
  obtain ⟨M, rfl⟩ : ∃ M : Nat, most = (M : Int) := ⟨most.toNat, by omega⟩
  have hMw : IntKind.u64.wrap (M : Int) = (M : Int) := by simp [IntKind.wrap, IntKind.signed, IntKind.bits]; omega
  by_cases hm1 : (M : Int) < (n : Int)
  · have HR := fun j => sn j (.inr (.inr (.inl hm1)))
    have hm1i : decide (M < n) = true := decide_eq_true (by omega)
    clear hN hA sn hk0 hm0
    go_wp2_with fail
    go_quiet (fail)
    go_wp2
    go_ret2
    exact (HR _).out
  have hm1i : decide (M < n) = false := decide_eq_false (by omega)
  have HA : Hid (RRdAt w1 g L) := hA
  have hdg := hA.digs
  obtain ⟨a, l, c, u, F, hu, h0, hL, h1, h2, h3⟩ := hA
  have hl := h2.hlen
  have hcp := h2.hcap
  have hmx := h2.hmax
  unfold maxLen at hmx
  have hLl : L.length + u = l := by rw [hL]; simp; omega
  have hc0 : w1.cell? ⟨g, 0, none⟩ = some (.slice a l c) := by rw [cell_of_row w1 g 0 _ _ _ h1]; rfl
  have hc1 : w1.cell? ⟨g, 1, none⟩ = some (.int .i64 u) := by rw [cell_of_row w1 g 1 _ _ _ h1]; rfl
  have hgl := (Array.getElem?_eq_some_iff.1 h1).1
  have hlw : IntKind.u64.wrap ((l : Int) - (u : Int) - (k : Int)) = (l : Int) - (u : Int) - (k : Int) := by simp [IntKind.wrap, IntKind.signed, IntKind.bits]; omega
  by_cases hm2 : (l : Int) - (u : Int) - (k : Int) < (n : Int)
  · have HR := fun j => sn j (.inr (.inr (.inr (by omega))))
    have hm2i : decide ((l : Int) - (u : Int) - (k : Int) < (n : Int)) = true := decide_eq_true hm2
    clear hN sn hk0 hm0 h1 h2 hL hl HA h hdg
    go_wp2_with fail
    go_quiet (fail)
    go_wp2
    go_ret2
    exact (HR _).out
  have hm2i : decide ((l : Int) - (u : Int) - (k : Int) < (n : Int)) = false := decide_eq_false hm2
  have HR : Hid (ResBytR L M ((L.drop k).take n) 0 (L.drop (k + n))) := ⟨n, k, hN, .inr ⟨by omega, rfl, rfl, rfl⟩⟩
  have hukn : u + k + n ≤ l := by omega
  obtain ⟨b, off, rfl, hcells⟩ := h2.cells (by omega)
  clear hcells
  obtain ⟨q, hq⟩ : ∃ q, u + k = q := ⟨_, rfl⟩
  obtain ⟨t, ht⟩ : ∃ t, q + n = t := ⟨_, rfl⟩
  have hqi : (u : Int) + (k : Int) = (q : Int) := by omega
  have hti : (q : Int) + (n : Int) = (t : Int) := by omega
  have HE : Hid ((F.drop q).take n = (L.drop k).take n) := by show _ = _; rw [hL, List.drop_drop, hq]
  have HD : Hid (Digs 256 ((F.drop q).take n)) := by show Digs _ _; rw [HE.out]; exact (hdg.drop k).take n
  have HF : Hid (∀ j, RRdAt ((w1.drewN j).setCell ⟨g, 1, none⟩ (.int .i64 (t : Int))) g (L.drop (k + n)) ∧ w.grownBy ((w1.drewN j).setCell ⟨g, 1, none⟩ (.int .i64 (t : Int))) (some g)) := fun j => by
    have := rrd_put (w := w) (wz := w1.drewN j) h0 hL (k := k + n) (by omega) (h2.below ⟨rfl, rfl, rfl, Nat.le_refl _, fun _ _ => rfl⟩) h3 h1 ⟨hb.os, hb.tape, hb.output, hb.size, hb.block⟩
    rw [show (u : Int) + ((k + n : Nat) : Int) = (t : Int) by omega] at this
    exact this.2
  have hfz : ∀ j, (w1.drewN j).frozen? ⟨g, 1, none⟩ = false := fun j => frozen_of_row _ g 1 _ _ h1
  have HX : Hid (∀ (j : Nat) (v : Value) (wx : World), Below ((w1.drewN j).setCell ⟨g, 1, none⟩ v).heap.size ((w1.drewN j).setCell ⟨g, 1, none⟩ v) wx → Byts wx (some ⟨b, off, none⟩) l c F ∧ wx.cell? ⟨g, 0, none⟩ = some (.slice (some ⟨b, off, none⟩) l c) ∧ wx.cell? ⟨g, 1, none⟩ = some v) := fun j v wx hbx => by
    have hz : (w1.drewN j).heap[g]? = some (.cells #[.slice (some ⟨b, off, none⟩) l c, .int .i64 u] 51 (0, 0)) := h1
    have hh : Head (w1.drewN j) g := ⟨_, _, hz, fun j x => by match j with | 0 => simp | 1 => simp | j + 2 => simp⟩
    have e1 := heap_setCell_same (w1.drewN j) g 1 _ _ v hz
    have e2 := (hbx.block g (by simpa using hgl)).trans e1
    refine ⟨((h2.below (w' := w1.drewN j) ⟨rfl, rfl, rfl, Nat.le_refl _, fun _ _ => rfl⟩).head (grown_set _ g 1 v) hh).below hbx, ?_, ?_⟩
    · rw [cell_of_row wx g 0 _ _ _ e2]; rfl
    · rw [cell_of_row wx g 1 _ _ _ e2]; rfl
  have hcm : c ≤ maxLen := h2.hmax
  clear hN sn hk0 hm0 h1 h2 hL hl HA h hdg
  have hql : q ≤ t := by omega
  have htl : t ≤ l := by omega
  have s1 : (q : Int) ≤ (t : Int) := by omega
  have s2 : (t : Int) ≤ (c : Int) := by omega
  have s6 : t - q = n := by omega
  have HQ : Hid (n = 0 → ∀ (wx : World) a' c', c' ≤ c → Byts wx a' n c' ((F.drop q).take n)) := fun hm0 wx a' c' h => by
    rw [hm0, List.take_zero]; exact Byts.empty (Nat.le_trans h hcm)
  have hnl : n ≤ 140737488355300 := by omega
  clear hcm
  go_wp2_with fail
  go_quiet (fail)
  go_wp2_with fail
  generalize hwz : World.setCell _ _ _ = wz
  have HG : Hid (RRdAt wz g (L.drop (k + n)) ∧ w.grownBy wz (some g)) := by subst hwz; exact HF.out _
  have HY : Hid (∀ wx : World, Below wz.heap.size wz wx → Byts wx (some ⟨b, off, none⟩) l c F ∧ wx.cell? ⟨g, 0, none⟩ = some (.slice (some ⟨b, off, none⟩) l c) ∧ wx.cell? ⟨g, 1, none⟩ = some (.int .i64 t)) := by subst hwz; exact fun wx h => HX.out _ _ wx h
  obtain ⟨-, z0, z1⟩ := HY.out wz (Below.refl _ _)
  have hgz : g < wz.heap.size := by subst hwz; simpa using hgl
  have hgne : g ≠ wz.heap.size := by omega
  clear hwz hc0 hc1 HF HX hfz hki hm0i hMw hm1 hm1i hm2 hm2i hlw
  by_cases hn0 : n = 0
  · replace HQ := (show Hid _ from HQ.out hn0)
    clear hn0 ht hq hti hqi
    obtain ⟨sx, hsx⟩ : ∃ sx : Option Addr, (if c = q then some ⟨b, off, none⟩ else some ⟨b, off + q, none⟩) = sx := ⟨_, rfl⟩
    have hsn : sx ≠ none := by rw [← hsx]; split <;> simp
    go_region_held3 (fun w' => w'.cell? ⟨g, 0, none⟩ = some (.slice (some ⟨b, off, none⟩) l c) ∧ w'.cell? ⟨g, 1, none⟩ = some (.int .i64 t)) (first | go_keep | (exact ⟨(hb2.cell (p := ⟨g, 0, none⟩) hgz).trans z0, (hb2.cell (p := ⟨g, 1, none⟩) hgz).trans z1⟩))
      ((refine step_appBW _ (by rfl) _ _ 22 (by rfl) Try.underlying22 wz.heap.size _ [] (by rfl) (by first | exact BOwn.empty _ | exact BOwn.empty wz) _ n _ ((F.drop q).take n) (by first | rfl | (simp; omega)) (by exact HQ.out _ _ _ (by first | exact Nat.le_refl _ | omega | (simp; done))) (by first | (intro e; exact absurd e hsn) | (intro e; cases e; done) | (intro e; split at e <;> cases e; done)) (by simp; omega) wz (by simp) (by exact ⟨rfl, rfl, rfl, by simp, fun k hk => Below.heap_alloc _ _ _ hk⟩) ?_; intro v' w2 hown hb2 _))
    all_goals
      obtain ⟨a1, n1, c1, rfl, hE⟩ := rbyt_end HG.out.1 HG.out.2 hb2 HE.out HD.out HR.out hown
      have HO := (show Hid _ from hE)
      clear hE hown hb2 HG HQ z0 z1 HY HE HD
      go_wp2
      go_ret2
      exact HO.out
  · have hcu : ¬ c = q := by omega
    have HP : Hid (∀ wx : World, Below wz.heap.size wz wx → Byts wx (some ⟨b, off + q, none⟩) n (c - q) ((F.drop q).take n)) := fun wx hb => (HY.out wx hb).1.part (by omega) (fun _ => rfl)
    clear HQ
    go_region_held3 (fun w' => w'.cell? ⟨g, 0, none⟩ = some (.slice (some ⟨b, off, none⟩) l c) ∧ w'.cell? ⟨g, 1, none⟩ = some (.int .i64 t)) (first | go_keep | (exact ⟨(hb2.cell (p := ⟨g, 0, none⟩) hgz).trans z0, (hb2.cell (p := ⟨g, 1, none⟩) hgz).trans z1⟩))
      ((refine step_appBW _ (by rfl) _ _ 22 (by rfl) Try.underlying22 wz.heap.size _ [] (by rfl) (by first | exact BOwn.empty _ | exact BOwn.empty wz) _ n _ ((F.drop q).take n) (by first | rfl | (simp; omega)) (by first | exact ((HP.out wz (Below.refl _ _)).drew.alloc _) | exact ((HP.out wz (Below.refl _ _)).alloc _).drew | exact ((HP.out wz (Below.refl _ _)).alloc _)) (by intro e; cases e) (by simp; omega) wz (by simp) (by exact ⟨rfl, rfl, rfl, by simp, fun k hk => Below.heap_alloc _ _ _ hk⟩) ?_; intro v' w2 hown hb2 _))
    all_goals
      obtain ⟨a1, n1, c1, rfl, hE⟩ := rbyt_end HG.out.1 HG.out.2 hb2 HE.out HD.out HR.out hown
      have HO := (show Hid _ from hE)
      clear hE hown hb2 HG HP z0 z1 HY HE HD
      go_wp2
      go_ret2
      exact HO.out
end Go.Proofs.Ytpoipobmkfphcaa
