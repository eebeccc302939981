/-
  The program's tables: Left.
-/
import Derived.Test.YtaiikhbfnfcalabBX15A
import Derived.Test.YtaiikhbfnfcalabBX14A
import Derived.Test.YtaiikhbfnfcalabRef15E
namespace Go.Proofs.Ytaiikhbfnfcalab
open Go.RowKit

theorem numsOf_step15 (k : Nat) (f : Nat → Bool) : ints (numsOfS (k + 1) f) = ints (numsOfS k f) ++ if f k = true then [(k : Int)] else [] := by
  unfold numsOfS
  rw [List.range_succ, List.filter_append]
  by_cases c : f k = true <;> simp [c, ints]
set_option maxRecDepth 20000 in
set_option maxHeartbeats 12800000 in
theorem x15left_any (v : TV) (t : Tab) (col cut : Int) (w : World) (hcol : -9223372036854775808 ≤ col ∧ col < 9223372036854775808) (h : TabAt w v t) : Calls Try.prog 5 #[.agg #[.slice v.p0 v.l0 v.c0, .slice v.p1 v.l1 v.c1, .slice v.p2 v.l2 v.c2], .int .i64 col, .int .i64 cut] w fun e w' => LeftT15 t col cut w e w' := by
  obtain ⟨V, hV⟩ : ∃ V, V = (w.alloc (.cells v.cells 25)).alloc (.cells #[.int .i64 0, .slice none 0 0] 30) := ⟨_, rfl⟩
  obtain ⟨G, hG⟩ : ∃ G, G = w.heap.size := ⟨_, rfl⟩
  have hb1 := balloc w (.cells v.cells 25)
  have hb2 := balloc (w.alloc (.cells v.cells 25)) (.cells #[.int .i64 0, .slice none 0 0] 30)
  have hr : V.heap[G + 1]? = some (.cells #[.int .i64 0, .slice none 0 0] 30 (0, 0)) := by
    have := heap_alloc_new (w.alloc (.cells v.cells 25)) (.cells #[.int .i64 0, .slice none 0 0] 30)
    rw [hV, hG]
    simpa using this
  have hBV : Below w.heap.size w V := by rw [hV]; exact bthen hb1 hb2
  have hVar : TVar V G v := by rw [hV, hG]; exact (TVar.new w v).below hb2
  have hTab : TabAt V v t := h.below hBV
  have HVar : Hid (∀ wx, Below V.heap.size V wx → TVar wx G v) := fun wx hb => hVar.below hb
  have HTab : Hid (∀ wx, Below V.heap.size V wx → TabAt wx v t) := fun wx hb => hTab.below hb
  have HR : Hid (∀ wx, Below V.heap.size V wx → wx.heap[G + 1]? = some (.cells #[.int .i64 0, .slice none 0 0] 30 (0, 0))) := fun wx hb => (hb.block _ (Array.getElem?_eq_some_iff.1 hr).1).trans hr
  have HB : Hid (Below w.heap.size w V ∧ w.heap.size ≤ G + 1) := ⟨hBV, by omega⟩
  have HW : Hid (V = (w.alloc (.cells v.cells 25)).alloc (.cells #[.int .i64 0, .slice none 0 0] 30) ∧ G = w.heap.size) := ⟨hV, hG⟩
  have HK : Hid (t.ids.length = v.l0 ∧ t.bins.length = v.l1 ∧ t.cols.length = v.l2) := ⟨h.ids.hlen, h.bins.hlen, h.cols.hlen⟩
  have m0 := h.ids.hmax
  have m0' := h.ids.hcap
  have m1 := h.bins.hmax
  have m1' := h.bins.hcap
  have m2 := h.cols.hmax
  have m2' := h.cols.hcap
  unfold maxLen at m0 m1 m2
  obtain ⟨c0, c1, c2, -⟩ := hVar.cells
  have HQ : Hid (Calls Try.prog 9 #[.agg #[.slice v.p0 v.l0 v.c0, .slice v.p1 v.l1 v.c1, .slice v.p2 v.l2 v.c2]] V fun e w' => RgtT15 t V e w') := x15right_any v t V hTab
  obtain ⟨p0, l0, q0, p1, l1, q1, p2, l2, q2⟩ := v
  dsimp only at *
  clear hV hG hb1 hb2 hr hBV hVar hTab h
  go_enter Try.func5, Try.ntmps5
  go_upto_region 1 with fail
  rw [show ((World.alloc w (Obj.cells #[.slice p0 l0 q0, .slice p1 l1 q1, .slice p2 l2 q2] 25)).alloc (.cells #[.int .i64 0, .slice none 0 0] 30)) = V from HW.out.1.symm, ← HW.out.2]
  clear HW
  go_wp2_with fail
  refine Calls.mono HQ.out ?_
  rintro e w1 ⟨b, rfl, hb, hB1⟩
  clear HQ c0 c1 c2
  have BAD : Hid (∀ er wx, Below V.heap.size V wx → (∀ x y, LeftT15 t col cut w (.returned (.tuple #[.agg #[.int .i64 0, .slice none 0 0], .int .i64 er])) ((wx.setCell ⟨G + 1, 0, none⟩ x).setCell ⟨G + 1, 1, none⟩ y)) ∨ ¬ ResLeft t col cut er 0 []) := fun er wx hb => by
    by_cases c : ResLeft t col cut er 0 []
    · exact .inl (fun x y => ⟨0, none, 0, 0, [], er, rfl, Nums.none15 _, c, put2_below (bthen HB.out.1 hb) HB.out.2 _ _⟩)
    · exact .inr c
  have HB1 : Hid (Below V.heap.size V w1) := hB1
  obtain ⟨⟨r0, f0⟩, ⟨r1, f1⟩, y0, y1⟩ := put2_cells (HR.out w1 HB1.out) (.int .i64 0) (.slice none 0 0)
  cases b with
  | false =>
    have HF : Hid (∀ x y, LeftT15 t col cut w (.returned (.tuple #[.agg #[.int .i64 0, .slice none 0 0], .int .i64 20])) ((w1.setCell ⟨G + 1, 0, none⟩ x).setCell ⟨G + 1, 1, none⟩ y)) := (BAD.out 20 w1 HB1.out).resolve_right (fun q => q (.inl ⟨fun z => (by have := hb.2 z; cases this), rfl, rfl, rfl⟩))
    clear HVar HTab HR HK BAD HB1 hb hB1
    go_wp2
    exact bodyPost_ret (v := .tuple #[.agg #[.int .i64 0, .slice none 0 0], .int .i64 20]) (by simp [results, Try.results5, go_sem, y0, y1]) rfl (HF.out _ _)
  | true =>
  have HOk : Hid (TabOk t) := hb.1 rfl
  have HBad1 : Hid (¬ LeftArg t col cut → ∀ wx, Below V.heap.size V wx → ∀ x y, LeftT15 t col cut w (.returned (.tuple #[.agg #[.int .i64 0, .slice none 0 0], .int .i64 1])) ((wx.setCell ⟨G + 1, 0, none⟩ x).setCell ⟨G + 1, 1, none⟩ y)) := fun z wx hx => (BAD.out 1 wx hx).resolve_right (fun q => q (.inr (.inl ⟨HOk.out, z, rfl, rfl, rfl⟩)))
  obtain ⟨c0, c1, c2, -⟩ := (HVar.out w1 HB1.out).cells
  dsimp only at c0 c1 c2
  clear BAD hb hB1
  by_cases hneg : col < 0
  · have hd : decide (col < 0) = true := decide_eq_true hneg
    have HF := (show Hid _ from HBad1.out (fun q => by have := q.1; omega) w1 HB1.out)
    clear HVar HTab HR HK HBad1 HB1 hneg HOk
    go_wp2
    exact bodyPost_ret (v := .tuple #[.agg #[.int .i64 0, .slice none 0 0], .int .i64 1]) (by simp [results, Try.results5, go_sem, y0, y1]) rfl (HF.out _ _)
  have hd : decide (col < 0) = false := decide_eq_false hneg
  obtain ⟨j, rfl⟩ : ∃ j : Nat, col = (j : Int) := ⟨col.toNat, by omega⟩
  by_cases hge : l2 ≤ j
  · have hd2 : decide (l2 ≤ j) = true := decide_eq_true hge
    have HF := (show Hid _ from HBad1.out (fun q => by have := q.2.1; have := HK.out.2.2; omega) w1 HB1.out)
    clear HVar HTab HR HK HBad1 HB1 hneg hge HOk
    go_wp2
    exact bodyPost_ret (v := .tuple #[.agg #[.int .i64 0, .slice none 0 0], .int .i64 1]) (by simp [results, Try.results5, go_sem, y0, y1]) rfl (HF.out _ _)
  have hd2 : decide (l2 ≤ j) = false := decide_eq_false hge
  have hlt : j < l2 := by omega
  have hlti : (j : Int) < (l2 : Int) := by omega
  have hll : l1 = l2 := by have := HOk.out.len; have := HK.out; omega
  subst hll
  have hT1 := HTab.out w1 HB1.out
  obtain ⟨b1, o1, p, n, q, e1, d1, hLp⟩ := hT1.cols.at15 (show j < l1 from hlt)
  obtain ⟨b2, o2, e2, d2⟩ := hT1.bins.cells (show 0 < l1 by omega)
  dsimp only at e1 e2
  subst e1
  subst e2
  replace d2 := d2 j hlt
  obtain ⟨x, hx⟩ : ∃ x, x = t.bins.getD j 0 := ⟨_, rfl⟩
  obtain ⟨L, hL⟩ : ∃ L, L = t.cols.getD j [] := ⟨_, rfl⟩
  rw [← hx] at d2
  rw [← hL] at hLp
  have hcok := HOk.out.col j (by rw [HK.out.2.2]; exact hlt)
  rw [← hx, ← hL] at hcok
  have hx1 := hcok.lo
  have hx2 := hcok.hi
  have hn : n = l0 := by rw [← hLp.hlen, hcok.len, HK.out.1]
  subst hn
  have hsub : IntKind.i64.wrap (x - 1) = x - 1 := by simp [IntKind.wrap, IntKind.signed, IntKind.bits]; omega
  have HX : Hid (x = t.bins.getD j 0 ∧ L = t.cols.getD j [] ∧ L.length = n ∧ n ≤ 256) := ⟨hx, hL, hLp.hlen, by rw [← HK.out.1]; exact HOk.out.ids.few⟩
  have HLp : Hid (∀ wx, Below w1.heap.size w1 wx → Lsts wx p n q L) := fun wx hb => hLp.below hb
  have hpm := hLp.hmax
  have hpc := hLp.hcap
  unfold maxLen at hpm
  have HI := (show Hid _ from x15from_any cut 0 (x - 1) w1)
  obtain ⟨z, hz⟩ : ∃ z, z = inB15 0 (x - 1) cut := ⟨_, rfl⟩
  rw [← hz] at HI
  have HZ : Hid (z = inB15 0 (x - 1) cut) := hz
  have HArg : Hid (LeftArg t (j : Int) cut ↔ (0 ≤ cut ∧ cut ≤ x - 1)) := by
    show _ ↔ _
    unfold LeftArg
    rw [Int.toNat_natCast, ← hx, HK.out.2.2]
    constructor
    · rintro ⟨-, -, k1, k2⟩
      exact ⟨k1, by omega⟩
    · rintro ⟨k1, k2⟩
      exact ⟨by omega, by omega, k1, by omega⟩
  clear hz hx hL hcok hLp hT1 hge hneg
  go_wp2_with fail
  refine Calls.mono HI.out ?_
  rintro e w2 ⟨rfl, rfl⟩
  clear HI
  cases z with
  | false =>
    have HF := (show Hid _ from HBad1.out (fun k => absurd (HArg.out.1 k) (of_decide_eq_false HZ.out.symm)) w1 HB1.out)
    clear HVar HTab HR HK HBad1 HB1 HOk HArg HZ HX HLp
    go_wp2
    exact bodyPost_ret (v := .tuple #[.agg #[.int .i64 0, .slice none 0 0], .int .i64 1]) (by simp [results, Try.results5, go_sem, y0, y1]) rfl (HF.out _ _)
  | true =>
  have HA : Hid (LeftArg t (j : Int) cut) := HArg.out.2 (of_decide_eq_true HZ.out.symm)
  clear HArg HZ HBad1 r0 f0 r1 f1 y0 y1
  go_wp2
  go_loopw [8, 42] (fun v8 v42 wr => ∃ k : Nat, k ≤ n ∧ v42 = .int .i64 k ∧ Hid (IOwn wr w1.heap.size v8 (ints (numsOfS k (leftF t (j : Int) cut)))) ∧ Hid (Below w1.heap.size w1 wr)) (fun _ v42 _ => n - (intOf v42).toNat)
  case atStart => exact ⟨0, by omega, rfl, IOwn.nil _ _, Below.refl _ _⟩
  case round =>
    obtain ⟨k, hk, rfl, HO, HBr⟩ := hrel
    clear c0 c1 c2 d1 d2
    by_cases hltk : k < n
    · have hltk2 : (k : Int) < (n : Int) := by omega
      obtain ⟨b3, o3, rfl, c3⟩ := (HLp.out _ HBr.out).cells (by omega)
      replace c3 := c3 k hltk
      obtain ⟨y, hy⟩ : ∃ y, y = L.getD k 0 := ⟨_, rfl⟩
      rw [← hy] at c3
      have HC : Hid (ints (numsOfS (k + 1) (leftF t (j : Int) cut)) = ints (numsOfS k (leftF t (j : Int) cut)) ++ if y ≤ cut then [(k : Int)] else []) := by
        show _ = _
        rw [numsOf_step15]
        unfold leftF
        rw [Int.toNat_natCast, ← HX.out.2.1, ← hy]
        by_cases c : y ≤ cut <;> simp [c]
      have HLen : Hid ((ints (numsOfS k (leftF t (j : Int) cut))).length < 1000000) := by
        have h1 := numsOfS_len k (leftF t (j : Int) cut)
        have h2 := HX.out.2.2.2
        show _ < _
        rw [ints_len]
        omega
      clear hy
      by_cases hyc : y ≤ cut
      · have hqd : decide (y ≤ cut) = true := decide_eq_true hyc
        have hlit := balloc wr (.cells #[.int .i64 (k : Int)] 3)
        have hO2 := HO.out.alloc (.cells #[.int .i64 (k : Int)] 3)
        have HB3 : Hid (Below w1.heap.size w1 (wr.alloc (.cells #[.int .i64 (k : Int)] 3))) := bthen HBr.out hlit
        have hbs : w1.heap.size ≤ (wr.alloc (.cells #[.int .i64 (k : Int)] 3)).heap.size := HB3.out.size
        have hlen := HLen.out
        clear HLen hlit HO
        go_wp2_with (at_builtin; refine wpList_appI1 _ rfl _ _ 22 rfl Try.underlying22 w1.heap.size _ _ rfl hO2 ⟨wr.heap.size, 0, none⟩ (k : Int) rfl ?c1 hlen hbs ?_)
        case c1 => simp
        intro v5 w5 hO5 hg5
        have HB5 : Hid (Below w1.heap.size w1 w5) := HB3.out.trans (hO2.low hg5 hbs)
        have HO5 : Hid (IOwn w5 w1.heap.size v5 (ints (numsOfS (k + 1) (leftF t (j : Int) cut)))) := by
          show IOwn _ _ _ _
          rw [HC.out, if_pos hyc]
          exact hO5
        clear hO2 hO5 hg5 HB3 hbs hlen HC HBr
        go_wp2
        go_roundw
        case rel => exact ⟨k + 1, by omega, by go_num, HO5, HB5⟩
        case measure => simp [intOf]; omega
      · have hqd : decide (y ≤ cut) = false := decide_eq_false hyc
        have HO5 : Hid (IOwn wr w1.heap.size u8 (ints (numsOfS (k + 1) (leftF t (j : Int) cut)))) := by
          show IOwn _ _ _ _
          rw [HC.out, if_neg hyc, List.append_nil]
          exact HO.out
        clear HC HLen HO hyc
        go_wp2
        go_roundw
        case rel => exact ⟨k + 1, by omega, by go_num, HO5, HBr⟩
        case measure => simp [intOf]; omega
    · obtain rfl : k = n := by omega
      have HBr2 : Hid (Below V.heap.size V wr) := bthen HB1.out HBr.out
      obtain ⟨c0, -, -, -⟩ := (HVar.out wr HBr2.out).cells
      dsimp only at c0
      obtain ⟨a, cp, rfl, hLs, -⟩ := HO.out.lsts (fun x hx => by
        unfold ints at hx
        obtain ⟨m, hm, rfl⟩ := List.mem_map.1 hx
        have := ((numsOfS_mem _ _ m).1 hm).1
        have := HX.out.2.2.2
        omega)
      have HCO := (show Hid _ from x14of_any (k : Int) a _ cp _ wr hLs (by
        have h1 := numsOfS_len k (leftF t (j : Int) cut)
        have h2 := HX.out.2.2.2
        rw [ints_len]
        exact Nat.le_trans h1 (Nat.le_trans h2 (by decide))))
      clear HO hLs
      go_wp2_with fail
      refine Calls.mono HCO.out ?_
      rintro e w3 ⟨N, a', l', c', ws, err, rfl, h1, h2, h3⟩
      have HB3 : Hid (Below V.heap.size V w3) := bthen HBr2.out h3
      have hR1 := HR.out w3 HB3.out
      obtain ⟨⟨r0, f0⟩, ⟨r1, f1⟩, z0, z1⟩ := put2_cells hR1 (.int .i64 N) (.slice a' l' c')
      have HF : Hid (LeftT15 t (j : Int) cut w (.returned (.tuple #[.agg #[.int .i64 N, .slice a' l' c'], .int .i64 err])) ((w3.setCell ⟨G + 1, 0, none⟩ (.int .i64 N)).setCell ⟨G + 1, 1, none⟩ (.slice a' l' c'))) := by
        refine ⟨N, a', l', c', ws, err, rfl, h1.putR15 hR1 (fun z e => by cases e) (fun z e => by cases e), .inr (.inr ⟨HOk.out, HA.out, ?_⟩), put2_below (bthen HB.out.1 HB3.out) HB.out.2 _ _⟩
        have hin : ∀ x, x ∈ ints (numsOfS k (leftF t (j : Int) cut)) → 0 ≤ x ∧ x < (k : Int) := fun x hx => by
          unfold ints at hx
          obtain ⟨m, hm, rfl⟩ := List.mem_map.1 hx
          have := ((numsOfS_mem _ _ m).1 hm).1
          omega
        have hk256 := HX.out.2.2.2
        rcases h2 with ⟨hbad, _⟩ | ⟨_, e1, hs, e2⟩
        · rcases hbad with q | q | ⟨x, hx, q⟩
          · omega
          · omega
          · have := hin x hx
            omega
        · refine ⟨e2, by rw [e1, HK.out.1], ?_⟩
          rw [HK.out.1]
          exact hs.congr (fun i hi => inList_nums15 i hi)
      clear HCO h1 h2 h3 hR1 HVar HTab HR HK HLp HX HOk HA
      go_wp2
      exact bodyPost_ret (v := .tuple #[.agg #[.int .i64 N, .slice a' l' c'], .int .i64 err]) (by simp [results, Try.results5, go_sem, z0, z1]) rfl HF.out
end Go.Proofs.Ytaiikhbfnfcalab
