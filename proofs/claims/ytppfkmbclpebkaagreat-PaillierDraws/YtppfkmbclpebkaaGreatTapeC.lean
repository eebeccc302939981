/-
  The contract of the document's Take.
-/
import Derived.Test.YtppfkmbclpebkaaGreatTapeB
import Derived.Deep.RegionHeld3
namespace Go.Proofs.YtppfkmbclpebkaaGreat
open Go.RowKit

theorem Byts.part {w : World} {a : Option Addr} {b off l c u m : Nat} {L : List Int} (h : Byts w (some ⟨b, off, none⟩) l c L) (hm : u + m ≤ l) (ha : 0 < m → a = some ⟨b, off + u, none⟩) : Byts w a m (c - u) ((L.drop u).take m) := by
  have hl := h.hlen
  have hx := h.hmax
  have hc := h.hcap
  refine ⟨by simp; omega, by omega, by omega, fun hp => ?_, fun y hy => h.word y (List.mem_of_mem_drop (List.mem_of_mem_take hy))⟩
  obtain ⟨b2, o2, e, hcell⟩ := h.cells (by omega)
  cases e
  refine ⟨b, off + u, ha hp, fun i hi => ?_⟩
  have := hcell (u + i) (by omega)
  rw [show off + (u + i) = off + u + i by omega] at this
  rw [this]
  simp [List.getD, hi]

theorem Byts.drew {w : World} {a : Option Addr} {l c : Nat} {L : List Int} (h : Byts w a l c L) : Byts w.drew a l c L := ⟨h.hlen, h.hcap, h.hmax, h.cells, h.word⟩
theorem Byts.alloc {w : World} {a : Option Addr} {l c : Nat} {L : List Int} (h : Byts w a l c L) (o : Obj) : Byts (w.alloc o) a l c L := h.below ((Below.refl _ _).alloc (Nat.le_refl _) _)

theorem rtake_end {w wz w2 : World} {g l c u m : Nat} {a : Option Addr} {F L : List Int} {v : Value} (h0 : F.length ≤ 65536) (hL : L = F.drop u) (hum : u + m ≤ l) (hF : Byts wz a l c F) (hnil : a ≠ none)
    (hz : wz.heap[g]? = some (.cells #[.slice a l c, .int .i64 u] 69 (0, 0))) (hbz : Below w.heap.size w wz) (hsz : wz.heap.size = w.heap.size) (hb2 : Below wz.heap.size wz w2) (hg : g < wz.heap.size)
    (hR : ResTake L m (L.take m) 0 (L.drop m)) (hown : BOwn w2 wz.heap.size v ([] ++ (F.drop u).take m)) :
    ∃ a1 n1 c1, v = .slice a1 n1 c1 ∧ w2.cell? ⟨g, 1, none⟩ = some (.int .i64 u) ∧ w2.frozen? ⟨g, 1, none⟩ = false ∧ TakeT RTapeAt w g L m (.returned (.tuple #[.slice a1 n1 c1, .int .i64 0])) (w2.setCell ⟨g, 1, none⟩ (.int .i64 ((u : Int) + (m : Int)))) := by
  obtain ⟨a1, n1, c1, rfl, q1, q2, -⟩ := hown.fresh (by rw [List.nil_append]; exact (hF.digs.drop u).take m)
  rw [List.nil_append, ← hL] at q1 q2
  have k1 := (hb2.block g hg).trans hz
  have hh : Head w2 g := ⟨_, _, k1, fun j x => by match j with | 0 => simp | 1 => simp | j + 2 => simp⟩
  have q := grown_set w2 g 1 (.int .i64 ((u : Int) + (m : Int)))
  refine ⟨a1, n1, c1, rfl, by rw [cell_of_row w2 g 1 _ _ _ k1]; rfl, frozen_of_row w2 g 1 _ _ k1, a1, n1, c1, L.take m, 0, L.drop m, rfl, q1.head q hh, fun hp => ?_, hR, ?_, ?_⟩
  · obtain ⟨k, e, hk, hb⟩ := q2 hp
    refine ⟨k, e, by omega, hb.grown q (by simp; omega), fun w'' hw => ?_⟩
    have e1 := heap_setCell_same w2 g 1 _ _ (.int .i64 ((u : Int) + (m : Int))) k1
    refine ⟨a, l, c, u + m, F, h0, by omega, by rw [hL, List.drop_drop], ?_, hF.old ((hF.below hb2).head q hh) hk hw, hnil⟩
    rw [hw.block g (Array.getElem?_eq_some_iff.1 e1).1 (by simp; omega)]
    simpa using e1
  · refine ⟨a, l, c, u + m, F, h0, by omega, by rw [hL, List.drop_drop], ?_, (hF.below hb2).head q hh, hnil⟩
    have := heap_setCell_same w2 g 1 _ _ (.int .i64 ((u : Int) + (m : Int))) k1
    simpa using this
  · refine ⟨q.os.trans (hb2.os.trans hbz.os), q.tape.trans (hb2.tape.trans hbz.tape), q.output.trans (hb2.output.trans hbz.output), Nat.le_trans (Nat.le_trans hbz.size hb2.size) q.size, fun k hk hne => ?_⟩
    rw [q.block k (by have := hb2.size; omega) hne, hb2.block k (by omega), hbz.block k hk]

theorem Byts.empty {w : World} {a : Option Addr} {c : Nat} (hc : c ≤ maxLen) : Byts w a 0 c [] := ⟨rfl, Nat.zero_le _, hc, fun h => absurd h (Nat.lt_irrefl _), fun x hx => by cases hx⟩

set_option maxHeartbeats 1600000 in
theorem rtake_any (g : Nat) (L : List Int) (n : Int) (w : World) (h : RTapeAt w g L) :
    Calls Tryz.prog 88 #[.pointer (some ⟨g, 0, none⟩), .int .i64 n] w fun e w' => TakeT RTapeAt w g L n e w' := by
  by_cases hn0 : n < 0
  · have HR : Hid (ResTake L n [] 1 L) := by show ResTake _ _ _ _ _; unfold ResTake; rw [if_pos (.inl hn0)]; exact ⟨rfl, rfl, rfl⟩
    go_enter Tryz.func88, Tryz.ntmps88
    go_wp2
    go_ret2
    exact TakeT.none h HR.out (World.grownBy.refl _ _)
  by_cases hn1 : 65536 < n
  · have HR : Hid (ResTake L n [] 1 L) := by show ResTake _ _ _ _ _; unfold ResTake; rw [if_pos (.inr hn1)]; exact ⟨rfl, rfl, rfl⟩
    go_enter Tryz.func88, Tryz.ntmps88
    go_wp2
    go_ret2
    exact TakeT.none h HR.out (World.grownBy.refl _ _)
  have d0 : decide (n < 0) = false := by simp; omega
  have d1 : decide (65536 < n) = false := by simp; omega
  have HT : Hid (RTapeAt w g L) := h
  obtain ⟨a, l, c, u, F, h0, hu, hL, h1, h2, h3⟩ := h
  have hl := h2.hlen
  have hmx := h2.hmax
  have hcp := h2.hcap
  unfold maxLen at hmx
  have hc : w.cell? ⟨g, 0, none⟩ = some (.slice a l c) := by rw [cell_of_row w g 0 _ _ _ h1]; rfl
  have hc1 : w.cell? ⟨g, 1, none⟩ = some (.int .i64 u) := by rw [cell_of_row w g 1 _ _ _ h1]; rfl
  have hLl : (L.length : Int) = (l : Int) - (u : Int) := by rw [hL]; simp; omega
  have hl2 : l ≤ 65536 := by omega
  by_cases hn2 : (L.length : Int) < n
  · have HR : Hid (ResTake L n [] 7 L) := by show ResTake _ _ _ _ _; unfold ResTake; rw [if_neg (by omega), if_pos hn2]; exact ⟨rfl, rfl, rfl⟩
    have hlt : (l : Int) - (u : Int) < n := by omega
    clear hLl hL hl h1 h2 h3 h0 hn2
    go_enter Tryz.func88, Tryz.ntmps88
    go_wp2_with fail
    go_quiet (fail)
    go_wp2
    go_ret2
    refine TakeT.none ?_ HR.out ⟨rfl, rfl, rfl, Nat.le_refl _, fun _ _ _ => rfl⟩
    exact HT.out.below ⟨rfl, rfl, rfl, Nat.le_refl _, fun _ _ => rfl⟩
  obtain ⟨m, rfl⟩ : ∃ m : Nat, n = (m : Int) := ⟨n.toNat, by omega⟩
  have HR : Hid (ResTake L m (L.take m) 0 (L.drop m)) := by show ResTake _ _ _ _ _; unfold ResTake; rw [if_neg (by omega), if_neg (by omega)]; simp
  have d2 : decide ((l : Int) - (u : Int) < (m : Int)) = false := by simp; omega
  have hum : u + m ≤ l := by omega
  have hm6 : m ≤ 65536 := by omega
  have HG : Hid (RTapeAt w g L ∧ L = F.drop u ∧ F.length = l ∧ w.heap[g]? = some (.cells #[.slice a l c, .int .i64 u] 69 (0, 0))) := ⟨HT.out, hL, hl, h1⟩
  have hg := HT.out.lt
  clear hLl hL hl h1 hn2 HT
  have hbx : ∀ wx : World, Below w.heap.size w wx → Byts wx a l c F := fun wx hb => h2.below hb
  have HX : Hid (∀ wx : World, Below w.heap.size w wx → Byts wx a l c F) := hbx
  have hcm : c ≤ maxLen := h2.hmax
  clear hbx
  have s1 : (u : Int) ≤ (u : Int) + (m : Int) := by omega
  have s2 : (u : Int) + (m : Int) ≤ (c : Int) := by omega
  have s3 : (u : Int) + (m : Int) ≤ 65536 := by omega
  have s4 : (0 : Int) ≤ (u : Int) + (m : Int) := by omega
  have s5 : (0 : Int) ≤ (u : Int) := by omega
  have s7 : IntKind.i64.wrap ((u : Int) + (m : Int)) = (u : Int) + (m : Int) := by simp [IntKind.wrap, IntKind.signed, IntKind.bits]; omega
  have s6 : ((u : Int) + (m : Int)).toNat - u = m := by omega
  have HQ : m = 0 → Hid (∀ (wx : World) a' c', c' ≤ c → Byts wx a' m c' ((F.drop u).take m)) := fun hm0 wx a' c' h => by
    rw [hm0, List.take_zero]; exact Byts.empty (Nat.le_trans h hcm)
  clear hcm
  by_cases hm0 : m = 0
  · have HQ := HQ hm0
    clear h2 hm0
    cases a with
    | none => exact absurd rfl h3
    | some ad =>
      obtain ⟨sx, hsx⟩ : ∃ sx : Option Addr, (if c = u then some ad else some (ad.add u)) = sx := ⟨_, rfl⟩
      have hsn : sx ≠ none := by rw [← hsx]; split <;> simp
      go_enter Tryz.func88, Tryz.ntmps88
      go_wp2_with fail
      go_quiet (fail)
      generalize hwz : World.drewN _ _ = wz
      have hbz : Below w.heap.size w wz := by subst hwz; exact ⟨rfl, rfl, rfl, Nat.le_refl _, fun _ _ => rfl⟩
      have z0 : wz.cell? ⟨g, 0, none⟩ = some (.slice (some ad) l c) := by subst hwz; exact hc
      have z1 : wz.cell? ⟨g, 1, none⟩ = some (.int .i64 u) := by subst hwz; exact hc1
      have zs : wz.heap.size = w.heap.size := by subst hwz; rfl
      have HZ : Hid (wz.heap[g]? = some (.cells #[.slice (some ad) l c, .int .i64 u] 69 (0, 0))) := by subst hwz; exact HG.out.2.2.2
      have HS : Hid (wz.heap.size = w.heap.size) := zs
      have hgz : g < wz.heap.size := by omega
      have hgne : g ≠ wz.heap.size := by omega
      clear hwz hc hc1 zs
      go_wp2_with fail
      go_region_held3 (fun w' => w'.cell? ⟨g, 0, none⟩ = some (.slice (some ad) l c) ∧ w'.cell? ⟨g, 1, none⟩ = some (.int .i64 u)) (first | go_keep | (exact ⟨(hb2.cell (p := ⟨g, 0, none⟩) hgz).trans z0, (hb2.cell (p := ⟨g, 1, none⟩) hgz).trans z1⟩))
        ((refine step_appBN _ (by rfl) _ _ 35 (by rfl) Tryz.underlying35 wz.heap.size _ [] (by rfl) (by first | exact BOwn.empty _ | exact BOwn.empty wz) _ m _ ((F.drop u).take m) (by first | rfl | (simp; omega)) (by exact HQ.out _ _ _ (by first | exact Nat.le_refl _ | omega | (simp; done))) (by first | (intro e; exact absurd e hsn) | (intro e; cases e; done) | (intro e; split at e <;> cases e; done)) (by simp; omega) wz (by simp) (by exact ⟨rfl, rfl, rfl, by simp, fun k hk => Below.heap_alloc _ _ _ hk⟩) ?_; intro v' w2 hown hb2 _))
      all_goals
        obtain ⟨a1, n1, c1, rfl, hc2, hf2, hE⟩ := rtake_end h0 HG.out.2.1 hum (HX.out wz hbz) h3 HZ.out hbz HS.out hb2 hgz HR.out hown
        have HE := (show Hid _ from hE)
        clear hE hown hb2 HG HX HQ HZ HS z0 z1
        go_wp2
        go_ret2
        exact HE.out
  · obtain ⟨b, off, rfl, hcells⟩ := h2.cells (by omega)
    have hcu : ¬ c = u := by omega
    clear h2 hcells HQ
    have HP : Hid (∀ wx : World, Below w.heap.size w wx → Byts wx (some ⟨b, off + u, none⟩) m (c - u) ((F.drop u).take m)) := fun wx hb => (HX.out wx hb).part hum (fun _ => rfl)
    go_enter Tryz.func88, Tryz.ntmps88
    go_wp2_with fail
    go_quiet (fail)
    generalize hwz : World.drewN _ _ = wz
    have hbz : Below w.heap.size w wz := by subst hwz; exact ⟨rfl, rfl, rfl, Nat.le_refl _, fun _ _ => rfl⟩
    have z0 : wz.cell? ⟨g, 0, none⟩ = some (.slice (some ⟨b, off, none⟩) l c) := by subst hwz; exact hc
    have z1 : wz.cell? ⟨g, 1, none⟩ = some (.int .i64 u) := by subst hwz; exact hc1
    have zs : wz.heap.size = w.heap.size := by subst hwz; rfl
    have HZ : Hid (wz.heap[g]? = some (.cells #[.slice (some ⟨b, off, none⟩) l c, .int .i64 u] 69 (0, 0))) := by subst hwz; exact HG.out.2.2.2
    have HS : Hid (wz.heap.size = w.heap.size) := zs
    have hgz : g < wz.heap.size := by omega
    have hgne : g ≠ wz.heap.size := by omega
    clear hwz hc hc1 zs
    go_wp2_with fail
    go_region_held3 (fun w' => w'.cell? ⟨g, 0, none⟩ = some (.slice (some ⟨b, off, none⟩) l c) ∧ w'.cell? ⟨g, 1, none⟩ = some (.int .i64 u)) (first | go_keep | (exact ⟨(hb2.cell (p := ⟨g, 0, none⟩) hgz).trans z0, (hb2.cell (p := ⟨g, 1, none⟩) hgz).trans z1⟩))
      ((refine step_appBN _ (by rfl) _ _ 35 (by rfl) Tryz.underlying35 wz.heap.size _ [] (by rfl) (by first | exact BOwn.empty _ | exact BOwn.empty wz) _ m _ ((F.drop u).take m) (by first | rfl | (simp; omega)) (by first | exact ((HP.out wz hbz).drew.alloc _) | exact ((HP.out wz hbz).alloc _).drew) (by intro e; cases e) (by simp; omega) wz (by simp) (by exact ⟨rfl, rfl, rfl, by simp, fun k hk => Below.heap_alloc _ _ _ hk⟩) ?_; intro v' w2 hown hb2 _))
    all_goals
      obtain ⟨a1, n1, c1, rfl, hc2, hf2, hE⟩ := rtake_end h0 HG.out.2.1 hum (HX.out wz hbz) h3 HZ.out hbz HS.out hb2 hgz HR.out hown
      have HE := (show Hid _ from hE)
      clear hE hown hb2 HG HX HP HZ HS z0 z1
      go_wp2
      go_ret2
      exact HE.out
end Go.Proofs.YtppfkmbclpebkaaGreat
