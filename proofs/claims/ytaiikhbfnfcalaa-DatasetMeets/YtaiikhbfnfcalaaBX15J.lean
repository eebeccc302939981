/-
  The program's tables: slices.Equal of whole numbers; what is asked of all tables. Written by mk/x15k.py.
  The program's tables: what is asked of all tables. Written by mk/x15l.py.
  The program's Join, its statements. Written by mk/x15m.py.
  The program's Join, its loops. Written by mk/x15m.py.
  The program's Join, the whole. Written by mk/x15m.py.
-/
import Derived.Test.YtaiikhbfnfcalaaX15D
import Derived.Test.YtaiikhbfnfcalaaBX15T
import Derived.Deep.RegionHeld3
import Derived.Test.YtaiikhbfnfcalaaR15K
namespace Go.Proofs.Ytaiikhbfnfcalaa
open Go.RowKit

set_option maxRecDepth 20000 in
set_option maxHeartbeats 1600000 in
theorem equal15_any (a b : Option Addr) (la ca lb cb : Nat) (xs ys : List Int) (w : World) (hx : Lsts w a la ca xs) (hy : Lsts w b lb cb ys) :
    Calls Try.prog 35 #[.slice a la ca, .slice b lb cb] w fun e w' => e = .returned (.bool (decide (xs = ys))) ∧ Below w.heap.size w w' := by
  have hm := hx.hmax
  have hc := hx.hcap
  unfold maxLen at hm
  have HL : Hid (xs.length = la ∧ ys.length = lb) := ⟨hx.hlen, hy.hlen⟩
  by_cases hl : la = lb
  case neg =>
    have hne : ((la : Int) != (lb : Int)) = true := by simp; omega
    have HE : Hid (false = decide (xs = ys)) := (decide_eq_false (fun e => hl (by rw [← HL.out.1, ← HL.out.2, e]))).symm
    clear hx hy HL hl
    go_enter Try.func35, Try.ntmps35
    go_wp2
    go_ret
    exact ⟨ret_bool HE.out, Below.refl _ _⟩
  subst hl
  have H : Hid (Lsts w a la ca xs ∧ Lsts w b la cb ys) := ⟨hx, hy⟩
  clear hx hy
  obtain ⟨D, hD⟩ : ∃ D, D = decide (xs = ys) := ⟨_, rfl⟩
  have HD : Hid (D = decide (xs = ys)) := hD
  rw [← hD]
  clear hD
  go_enter Try.func35, Try.ntmps35
  go_wp2
  go_loopw [13] (fun v13 wr => ∃ k : Nat, k ≤ la ∧ v13 = .int .i64 k ∧ Hid (∀ j, j < k → xs.getD j 0 = ys.getD j 0) ∧ Below w.heap.size w wr) (fun v13 _ => la - (intOf v13).toNat)
  case atStart => exact ⟨0, by omega, rfl, fun j hj => by omega, Below.refl _ _⟩
  case round =>
    obtain ⟨k, hk, rfl, HE, hb⟩ := hrel
    by_cases hlt : k < la
    · have hlti : (k : Int) < (la : Int) := by omega
      obtain ⟨b1, o1, rfl, c1⟩ := (H.out.1.below hb).cells (by omega)
      obtain ⟨b2, o2, rfl, c2⟩ := (H.out.2.below hb).cells (by omega)
      replace c1 := c1 k hlt
      replace c2 := c2 k hlt
      obtain ⟨x, hx⟩ : ∃ x, x = xs.getD k 0 := ⟨_, rfl⟩
      obtain ⟨y, hy⟩ : ∃ y, y = ys.getD k 0 := ⟨_, rfl⟩
      rw [← hx] at c1
      rw [← hy] at c2
      have HX : Hid (x = xs.getD k 0 ∧ y = ys.getD k 0) := ⟨hx, hy⟩
      clear hx hy
      by_cases hxy : x = y
      · have hq : (x != y) = false := by simp [hxy]
        have HN : Hid (∀ j, j < k + 1 → xs.getD j 0 = ys.getD j 0) := fun j hj => by
          by_cases e : j = k
          · subst e
            rw [← HX.out.1, ← HX.out.2]; exact hxy
          · exact HE.out j (by omega)
        subst hxy
        clear HX HE
        go_wp2
        go_quiet (fail)
        go_wp2
        go_roundw
        case rel => exact ⟨k + 1, by omega, by go_num, HN, below_drewN hb _⟩
        case measure => simp [intOf]; omega
      · have hq : (x != y) = true := by simp [hxy]
        have hq2 : (x == y) = false := by simp [hxy]
        have HF : Hid (false = D) := by
          show _ = _
          rw [HD.out]
          exact (decide_eq_false (fun e => hxy (by rw [HX.out.1, HX.out.2, e]))).symm
        clear HX HE HD hxy
        go_wp2
        go_quiet (fail)
        go_wp2
        go_ret
        exact ⟨ret_bool HF.out, below_drewN hb _⟩
    · obtain rfl : k = la := by omega
      have HF : Hid (true = D) := by
        show _ = _
        rw [HD.out]
        exact (decide_eq_true (eq_all15 (by rw [HL.out.1, HL.out.2]) (fun j hj => HE.out j (by rw [← HL.out.1]; exact hj)))).symm
      clear HE HD
      go_wp2
      go_ret
      exact ⟨ret_bool HF.out, hb⟩

/-- A table may be, and its ids are those. -/
def SameIds15 (t t0 : Tab) : Prop := TabOk t ∧ t.ids = t0.ids
def LikeT15 (t t0 : Tab) (w : World) (e : Ending) (w' : World) : Prop := ∃ b, e = .returned (.bool b) ∧ (b = true ↔ SameIds15 t t0) ∧ Below w.heap.size w w'
set_option maxRecDepth 20000 in
set_option maxHeartbeats 6400000 in
theorem x15joinc_any (v : TV) (t : Tab) (g : Nat) (a : Option Addr) (l c : Nat) (ts : List Tab) (w : World) (ht : TabAt w v t) (hg : w.cell? ⟨g, 0, none⟩ = some (.slice a l c)) (h : TRows w a l c ts) (hl : 0 < l) : Calls Try.prog 34 #[.agg #[.slice v.p0 v.l0 v.c0, .slice v.p1 v.l1 v.c1, .slice v.p2 v.l2 v.c2], .pointer (some ⟨g, 0, none⟩)] w fun e w' => LikeT15 t (ts.getD 0 Tab.none) w e w' := by
  obtain ⟨b, off, v0, rfl, ⟨z0, -, -⟩, ht0⟩ := h.at hl
  replace z0 : w.cell? ⟨b, off, none⟩ = some (.slice v0.p0 v0.l0 v0.c0) := by simpa using z0
  obtain ⟨V, hV⟩ : ∃ V, V = w.alloc (.cells v.cells 25) := ⟨_, rfl⟩
  obtain ⟨B, hB⟩ : ∃ B, B = w.heap.size := ⟨_, rfl⟩
  have hBV : Below w.heap.size w V := by rw [hV]; exact balloc _ _
  have hVar : TVar V B v := by rw [hV, hB]; exact TVar.new w v
  have hw1 : ¬ 9223372036854775807 < l := by have := h.hcap; have := h.hmax; unfold maxLen at this; omega
  have hli : (0 : Int) < (l : Int) := by omega
  obtain ⟨c0, c1, c2, -⟩ := hVar.cells
  have HK : Hid (∀ wx, Below V.heap.size V wx → wx.cell? ⟨B, 0, none⟩ = some (.slice v.p0 v.l0 v.c0) ∧ wx.cell? ⟨B, 1, none⟩ = some (.slice v.p1 v.l1 v.c1) ∧ wx.cell? ⟨B, 2, none⟩ = some (.slice v.p2 v.l2 v.c2) ∧ wx.cell? ⟨g, 0, none⟩ = some (.slice (some ⟨b, off, none⟩) l c) ∧ wx.cell? ⟨b, off, none⟩ = some (.slice v0.p0 v0.l0 v0.c0)) := fun wx hb => ⟨(hVar.below hb).cells.1, (hVar.below hb).cells.2.1, (hVar.below hb).cells.2.2.1, bkeep (bthen hBV hb) hg rfl, bkeep (bthen hBV hb) z0 rfl⟩
  obtain ⟨-, -, -, d1, d2⟩ := HK.out V (Below.refl _ _)
  have HX : Hid (Below w.heap.size w V) := hBV
  have HRB : Hid (Below V.heap.size V V) := Below.refl _ _
  have HW : Hid (V = w.alloc (.cells v.cells 25) ∧ B = w.heap.size) := ⟨hV, hB⟩
  have HE : Hid (∀ wx, Below V.heap.size V wx → Calls Try.prog 35 #[.slice v.p0 v.l0 v.c0, .slice v0.p0 v0.l0 v0.c0] wx fun e w' => e = .returned (.bool (decide (t.ids = (ts.getD 0 Tab.none).ids))) ∧ Below V.heap.size V w' ∧ Hid (Below V.heap.size V w')) := fun wx hb => (equal15_any _ _ _ _ _ _ _ _ wx ((ht.below (bthen hBV hb)).ids) ((ht0.below (bthen hBV hb)).ids)).mono (fun e w' q => ⟨q.1, bthen hb q.2, bthen hb q.2⟩)
  by_cases hok : TabOk t
  case neg =>
    have HC : Hid (∀ wx, Below V.heap.size V wx → Calls Try.prog 10 #[.agg #[.slice v.p0 v.l0 v.c0, .slice v.p1 v.l1 v.c1, .slice v.p2 v.l2 v.c2]] wx fun e w' => e = .returned (.bool false) ∧ Below V.heap.size V w' ∧ Hid (Below V.heap.size V w')) := fun wx hbx => (x15right_any v t wx (ht.below (bthen hBV hbx))).mono (fun e w' q => by
      obtain ⟨b, rfl, hb, hB⟩ := q
      refine ⟨?_, bthen hbx hB, bthen hbx hB⟩
      cases b with
      | false => rfl
      | true => exact absurd (hb.1 rfl) hok)
    have HF : Hid (¬ SameIds15 t (ts.getD 0 Tab.none)) := fun q => hok q.1
    clear hV hB hBV hVar ht ht0 h hg z0 hok HE
    go_enter Try.func34, Try.ntmps34
    go_upto_region 1 with fail
    rw [show (World.alloc w (Obj.cells #[.slice v.p0 v.l0 v.c0, .slice v.p1 v.l1 v.c1, .slice v.p2 v.l2 v.c2] 25)) = V from HW.out.1.symm, ← HW.out.2]
    clear HW
    go_wp2_with fail
    first
      | go_region_with (go_at_call 10; with_reducible refine Calls.mono (HC.out _ (by repeat (first | exact Below.refl _ _ | assumption | refine bdr12 ?_ | refine bgr12 ?_ _ | fail))) ?_; rintro e w2 ⟨rfl, hb2, HB2⟩)
      | fail
    all_goals
      go_wp2
      go_ret
      exact ⟨false, rfl, ⟨fun e => (by cases e), fun e => absurd e HF.out⟩, bthen HX.out HB2.out⟩
  have HC : Hid (∀ wx, Below V.heap.size V wx → Calls Try.prog 10 #[.agg #[.slice v.p0 v.l0 v.c0, .slice v.p1 v.l1 v.c1, .slice v.p2 v.l2 v.c2]] wx fun e w' => e = .returned (.bool true) ∧ Below V.heap.size V w' ∧ Hid (Below V.heap.size V w')) := fun wx hbx => (x15right_any v t wx (ht.below (bthen hBV hbx))).mono (fun e w' q => by
    obtain ⟨b, rfl, hb, hB⟩ := q
    refine ⟨?_, bthen hbx hB, bthen hbx hB⟩
    cases b with
    | true => rfl
    | false => exact absurd (hb.2 hok) (fun e => by cases e))
  obtain ⟨d, hd⟩ : ∃ d, d = decide (t.ids = (ts.getD 0 Tab.none).ids) := ⟨_, rfl⟩
  rw [← hd] at HE
  have HF : Hid (d = true ↔ SameIds15 t (ts.getD 0 Tab.none)) := by
    rw [hd, decide_eq_true_eq]
    exact ⟨fun q => ⟨hok, q⟩, fun q => q.2⟩
  clear hV hB hBV hVar ht ht0 h hg z0 hok hd
  go_enter Try.func34, Try.ntmps34
  go_upto_region 1 with fail
  rw [show (World.alloc w (Obj.cells #[.slice v.p0 v.l0 v.c0, .slice v.p1 v.l1 v.c1, .slice v.p2 v.l2 v.c2] 25)) = V from HW.out.1.symm, ← HW.out.2]
  clear HW
  go_wp2_with fail
  go_region_held3 (fun w' => w'.cell? ⟨B, 0, none⟩ = some (.slice v.p0 v.l0 v.c0) ∧ w'.cell? ⟨B, 1, none⟩ = some (.slice v.p1 v.l1 v.c1) ∧ w'.cell? ⟨B, 2, none⟩ = some (.slice v.p2 v.l2 v.c2) ∧ w'.cell? ⟨g, 0, none⟩ = some (.slice (some ⟨b, off, none⟩) l c) ∧ w'.cell? ⟨b, off, none⟩ = some (.slice v0.p0 v0.l0 v0.c0)) (first | exact HK.out _ (by repeat (first | exact Below.refl _ _ | assumption | refine bdr12 ?_ | refine bgr12 ?_ _ | fail)) | go_keep) (first
    | (go_at_call 10; with_reducible refine Calls.mono (HC.out _ (by repeat (first | exact Below.refl _ _ | assumption | refine bdr12 ?_ | refine bgr12 ?_ _ | fail))) ?_; rintro e w2 ⟨rfl, hb2, HB2⟩)
    | (go_at_call 35; with_reducible refine Calls.mono (HE.out _ (by repeat (first | exact Below.refl _ _ | assumption | refine bdr12 ?_ | refine bgr12 ?_ _ | fail))) ?_; rintro e w3 ⟨rfl, hb3, HB3⟩)
    | fail)
  all_goals
    clear HC HE HK
    go_wp2
    go_ret
    exact ⟨d, rfl, HF.out, bthen HX.out HB3.out⟩
end Go.Proofs.Ytaiikhbfnfcalaa

namespace Go.Proofs.Ytaiikhbfnfcalaa
open Go.RowKit

set_option maxRecDepth 20000 in
set_option maxHeartbeats 6400000 in
theorem x15eacht_any (g : Nat) (a : Option Addr) (l c : Nat) (ts : List Tab) (w : World) (hg : w.cell? ⟨g, 0, none⟩ = some (.slice a l c)) (h : TRows w a l c ts) : Calls Try.prog 45 #[.slice a l c, .func (.func 34) #[] #[.pointer (some ⟨g, 0, none⟩)]] w fun e w' => ∃ r, e = .returned (.bool r) ∧ (r = true ↔ ∀ i, i < ts.length → SameIds15 (ts.getD i Tab.none) (ts.getD 0 Tab.none)) ∧ Below w.heap.size w w' := by
  have hm := h.hmax
  have hc := h.hcap
  unfold maxLen at hm
  have HL : Hid (ts.length = l) := h.hlen
  have H : Hid (∀ wx, Below w.heap.size w wx → TRows wx a l c ts ∧ wx.cell? ⟨g, 0, none⟩ = some (.slice a l c)) := fun wx hb => ⟨h.below hb, bkeep hb hg rfl⟩
  clear h hg
  go_enter Try.func45, Try.ntmps45
  go_wp2
  go_loopw [9] (fun v9 wr => ∃ k : Nat, k ≤ l ∧ v9 = .int .i64 k ∧ Hid (∀ j, j < k → SameIds15 (ts.getD j Tab.none) (ts.getD 0 Tab.none)) ∧ Hid (Below w.heap.size w wr)) (fun v9 _ => l - (intOf v9).toNat)
  case atStart => exact ⟨0, by omega, rfl, fun j hj => by omega, Below.refl _ _⟩
  case round =>
    obtain ⟨k, hk, rfl, HE, HB⟩ := hrel
    by_cases hlt : k < l
    · have hlti : (k : Int) < (l : Int) := by omega
      have hk0 : (0 : Int) ≤ (k : Int) := by omega
      obtain ⟨hT, hgr⟩ := H.out _ HB.out
      obtain ⟨b1, o1, v, e1, ⟨z0, z1, z2⟩, ht⟩ := hT.at hlt
      subst e1
      have hbv := balloc wr (.cells v.cells 25)
      have HV := bthen HB.out hbv
      have HC := (show Hid _ from x15joinc_any v (ts.getD k Tab.none) g _ l c ts (wr.alloc (.cells v.cells 25)) (ht.below hbv) (H.out _ HV).2 (H.out _ HV).1 (by omega))
      have HVh : Hid (Below w.heap.size w (wr.alloc (.cells v.cells 25))) := HV
      clear hT hgr ht hbv HV
      unfold TV.cells at HC HVh
      go_wp2_with fail
      refine Calls.mono HC.out ?_
      rintro e w1 ⟨r, rfl, hr, hB1⟩
      have HR : Hid (r = true ↔ SameIds15 (ts.getD k Tab.none) (ts.getD 0 Tab.none)) := hr
      have HB1 : Hid (Below w.heap.size w w1) := bthen HVh.out hB1
      clear HC hr hB1 HVh
      cases r with
      | true =>
        have HN : Hid (∀ j, j < k + 1 → SameIds15 (ts.getD j Tab.none) (ts.getD 0 Tab.none)) := fun j hj => by
          by_cases e : j = k
          · subst e
            exact HR.out.1 rfl
          · exact HE.out j (by omega)
        clear HE HR HB
        go_wp2
        go_roundw
        case rel => exact ⟨k + 1, by omega, by go_num, HN, HB1⟩
        case measure => simp [intOf]; omega
      | false =>
        have HF : Hid (¬ ∀ i, i < ts.length → SameIds15 (ts.getD i Tab.none) (ts.getD 0 Tab.none)) := fun q => by
          have := HR.out.2 (q k (by rw [HL.out]; exact hlt))
          cases this
        clear HE HR HB
        go_wp2
        go_ret
        exact ⟨false, rfl, ⟨fun e => (by cases e), fun e => absurd e HF.out⟩, HB1.out⟩
    · obtain rfl : k = l := by omega
      have HF : Hid (∀ i, i < ts.length → SameIds15 (ts.getD i Tab.none) (ts.getD 0 Tab.none)) := fun i hi => HE.out i (by rw [← HL.out]; exact hi)
      clear HE
      go_wp2
      go_ret
      exact ⟨true, rfl, ⟨fun _ => HF.out, fun _ => rfl⟩, HB.out⟩
set_option maxRecDepth 20000 in
set_option maxHeartbeats 3200000 in
theorem x15askt_any (g : Nat) (a : Option Addr) (l c : Nat) (ts : List Tab) (w : World) (hg : w.cell? ⟨g, 0, none⟩ = some (.slice a l c)) (h : TRows w a l c ts) : Calls Try.prog 33 #[.slice a l c, .func (.func 34) #[] #[.pointer (some ⟨g, 0, none⟩)]] w fun e w' => AskT15 l (JoinOk ts) w e w' := by
  have hm := h.hmax
  have hc := h.hcap
  unfold maxLen at hm
  have HC := (show Hid _ from x15eacht_any g a l c ts w hg h)
  clear h hg
  by_cases h0 : l = 0
  · have hd : ((l : Int) == 0) = true := by simp [h0]
    have HF : Hid (¬ FewL l) := fun q => q.1 h0
    clear h0 HC
    go_enter Try.func33, Try.ntmps33
    go_wp2
    go_ret
    exact ⟨1, rfl, .inl ⟨HF.out, rfl⟩, Below.refl _ _⟩
  have hd : ((l : Int) == 0) = false := by simp [h0]
  by_cases h16 : 16 < l
  · have hd2 : decide ((16 : Int) < (l : Int)) = true := decide_eq_true (by omega)
    have HF : Hid (¬ FewL l) := fun q => by have := q.2; omega
    clear h0 HC h16
    go_enter Try.func33, Try.ntmps33
    go_wp2
    go_ret
    exact ⟨1, rfl, .inl ⟨HF.out, rfl⟩, Below.refl _ _⟩
  have hd2 : decide ((16 : Int) < (l : Int)) = false := decide_eq_false (by omega)
  have HW : Hid (FewL l) := ⟨h0, by omega⟩
  clear h0 h16
  go_enter Try.func33, Try.ntmps33
  go_wp2_with fail
  refine Calls.mono HC.out ?_
  rintro e w1 ⟨r, rfl, hr, hB1⟩
  have HB1 : Hid (Below w.heap.size w w1) := hB1
  have HR : Hid (r = true ↔ JoinOk ts) := hr
  clear HC hr hB1
  cases r with
  | true =>
    have HF : Hid (JoinOk ts) := HR.out.1 rfl
    clear HR
    go_wp2
    go_ret
    exact ⟨0, rfl, .inr (.inr ⟨HW.out, HF.out, rfl⟩), HB1.out⟩
  | false =>
    have HF : Hid (¬ JoinOk ts) := fun q => by have := HR.out.2 q; cases this
    clear HR
    go_wp2
    go_ret
    exact ⟨20, rfl, .inr (.inl ⟨HW.out, HF.out, rfl⟩), HB1.out⟩
end Go.Proofs.Ytaiikhbfnfcalaa

namespace Go.Proofs.Ytaiikhbfnfcalaa
open Go.RowKit

theorem wpList_appIsAt (w : World) {ops : Array Oper} {rest : List Oper} {o : Oper} {a : Act} {Q : Exit → Act → World → Prop} (hgd : o.guard = none) (s x : Operand)
    (ho : o.op = .call { callee := .builtin .append, args := #[s, x], argTypes := #[22, 22] })
    (base : Nat) (v : Value) (xs : List Int) (hs : a.eval s = v) (hown : IOwn w base v xs) (p : Option Addr) (l c : Nat) (ys : List Int) (hx : a.eval x = .slice p l c) (hL : Lsts w p l c ys) (hn : xs.length + l < 1000000) (hbase : base ≤ w.heap.size)
    (h : ∀ v' w', IOwn w' base v' (xs ++ ys) → w.grownBy w' v.ownBlock → (v'.ownBlock = v.ownBlock ∨ v'.ownBlock = some w.heap.size) → wpList Try.prog ops Q rest (a.put o.dst v') w') : wpList Try.prog ops Q (o :: rest) a w := by
  obtain ⟨v', w', hr, h2, h3, h4⟩ := run_appIsAt w o.type hown hL hn hbase
  exact Lib.wpList_append_run w hgd s x _ _ ho _ _ hs hx _ w' hr (h v' w' h2 h3 h4)
set_option maxRecDepth 100000 in
set_option maxHeartbeats 12800000 in
theorem jx_p0 {x1 x2 x3 x4 x5 x6 x7 x8 x9 x10 x11 x12 x13 x14 x15 x16 x17 x18 x19 x20 x21 x22 x23 x24 x25 x26 x27 x28 x29 x30 x31 x32 x33 x34 x35 x36 x37 x38 x39 x40 x41 x42 x43 x44 x45 x46 x47 x48 x49 x50 x51 : Value} {Q : Exit → Act → World → Prop} {W : World} {a : Option Addr} {l c : Nat} 
    (hN : Q .normal ⟨#[.slice a l c, .pointer (some ⟨W.heap.size, 0, none⟩), .pointer (some ⟨(W.heap.size + 1), 0, none⟩), .int .i64 0, x4, x5, x6, x7, x8, x9, x10, x11, x12, x13, x14, x15, x16, x17, x18, x19, x20, x21, x22, x23, x24, x25, x26, x27, x28, x29, x30, x31, x32, x33, x34, x35, x36, x37, x38, x39, x40, x41, x42, x43, x44, x45, x46, x47, x48, x49, x50, x51], []⟩ ((W.alloc (.cells #[.slice a l c] 37)).alloc (.cells TV.none.cells 25))) :
    Code.wp Try.prog ((Try.f18.body.bind (pcAt 0)).getD .skip) Q ⟨#[.slice a l c, x1, x2, x3, x4, x5, x6, x7, x8, x9, x10, x11, x12, x13, x14, x15, x16, x17, x18, x19, x20, x21, x22, x23, x24, x25, x26, x27, x28, x29, x30, x31, x32, x33, x34, x35, x36, x37, x38, x39, x40, x41, x42, x43, x44, x45, x46, x47, x48, x49, x50, x51], []⟩ W := by
  conv => arg 2; whnf
  have HN : Hid (Q .normal ⟨#[.slice a l c, .pointer (some ⟨W.heap.size, 0, none⟩), .pointer (some ⟨(W.heap.size + 1), 0, none⟩), .int .i64 0, x4, x5, x6, x7, x8, x9, x10, x11, x12, x13, x14, x15, x16, x17, x18, x19, x20, x21, x22, x23, x24, x25, x26, x27, x28, x29, x30, x31, x32, x33, x34, x35, x36, x37, x38, x39, x40, x41, x42, x43, x44, x45, x46, x47, x48, x49, x50, x51], []⟩ ((W.alloc (.cells #[.slice a l c] 37)).alloc (.cells TV.none.cells 25))) := hN
  clear hN
  go_wp2_with fail
  exact HN.out   

set_option maxRecDepth 100000 in
set_option maxHeartbeats 12800000 in
theorem jx_p1 {x0 x2 x3 x4 x5 x6 x7 x8 x9 x10 x11 x12 x13 x14 x15 x16 x17 x18 x19 x20 x21 x22 x23 x24 x25 x26 x27 x28 x29 x30 x31 x32 x33 x34 x35 x36 x37 x38 x39 x40 x41 x42 x43 x44 x45 x46 x47 x48 x49 x50 x51 : Value} {Q : Exit → Act → World → Prop} {W : World} {g l c : Nat} {a : Option Addr} {ts : List Tab} (hg : W.cell? ⟨g, 0, none⟩ = some (.slice a l c)) (h : TRows W a l c ts)
    (hN : ∀ (er : Int) (wx : World) (y10 y11 y12 : Value), ((¬ FewL l ∧ er = 1) ∨ (FewL l ∧ ¬ JoinOk ts ∧ er = 20) ∨ (FewL l ∧ JoinOk ts ∧ er = 0)) → Below W.heap.size W wx → Q .normal ⟨#[x0, .pointer (some ⟨g, 0, none⟩), x2, x3, .int .i64 er, x5, x6, x7, x8, x9, y10, y11, y12, x13, x14, x15, x16, x17, x18, x19, x20, x21, x22, x23, x24, x25, x26, x27, x28, x29, x30, x31, x32, x33, x34, x35, x36, x37, x38, x39, x40, x41, x42, x43, x44, x45, x46, x47, x48, x49, x50, x51], []⟩ wx) :
    Code.wp Try.prog ((Try.f18.body.bind (pcAt 1)).getD .skip) Q ⟨#[x0, .pointer (some ⟨g, 0, none⟩), x2, x3, x4, x5, x6, x7, x8, x9, x10, x11, x12, x13, x14, x15, x16, x17, x18, x19, x20, x21, x22, x23, x24, x25, x26, x27, x28, x29, x30, x31, x32, x33, x34, x35, x36, x37, x38, x39, x40, x41, x42, x43, x44, x45, x46, x47, x48, x49, x50, x51], []⟩ W := by
  conv => arg 2; whnf
  have HN : Hid (∀ (er : Int) (wx : World) (y10 y11 y12 : Value), ((¬ FewL l ∧ er = 1) ∨ (FewL l ∧ ¬ JoinOk ts ∧ er = 20) ∨ (FewL l ∧ JoinOk ts ∧ er = 0)) → Below W.heap.size W wx → Q .normal ⟨#[x0, .pointer (some ⟨g, 0, none⟩), x2, x3, .int .i64 er, x5, x6, x7, x8, x9, y10, y11, y12, x13, x14, x15, x16, x17, x18, x19, x20, x21, x22, x23, x24, x25, x26, x27, x28, x29, x30, x31, x32, x33, x34, x35, x36, x37, x38, x39, x40, x41, x42, x43, x44, x45, x46, x47, x48, x49, x50, x51], []⟩ wx) := hN
  clear hN
  have HC := (show Hid _ from x15askt_any g a l c ts W hg h)
  clear h
  go_wp2_with fail
  refine Calls.mono HC.out ?_
  rintro e w2 ⟨er, rfl, h1, h2⟩
  have HF : Hid (((¬ FewL l ∧ er = 1) ∨ (FewL l ∧ ¬ JoinOk ts ∧ er = 20) ∨ (FewL l ∧ JoinOk ts ∧ er = 0)) ∧ Below W.heap.size W w2) := ⟨h1, h2⟩
  clear HC h1 h2
  go_wp2_with fail
  exact HN.out _ _ _ _ _ HF.out.1 HF.out.2

set_option maxRecDepth 100000 in
set_option maxHeartbeats 12800000 in
theorem jx_p2 {x0 x1 x3 x5 x6 x7 x8 x9 x10 x11 x12 x13 x14 x15 x16 x17 x18 x19 x20 x21 x22 x23 x24 x25 x26 x27 x28 x29 x30 x31 x32 x33 x34 x35 x36 x37 x38 x39 x40 x41 x42 x43 x44 x45 x46 x47 x48 x49 x50 x51 : Value} {Q : Exit → Act → World → Prop} {W : World} {R : Nat} {er : Int} (hr : TVar W R TV.none)
    (hN : ∀ (y3 y13 y14 y15 y16 : Value), er = 0 → Q .normal ⟨#[x0, x1, .pointer (some ⟨R, 0, none⟩), y3, .int .i64 er, x5, x6, x7, x8, x9, x10, x11, x12, y13, y14, y15, y16, x17, x18, x19, x20, x21, x22, x23, x24, x25, x26, x27, x28, x29, x30, x31, x32, x33, x34, x35, x36, x37, x38, x39, x40, x41, x42, x43, x44, x45, x46, x47, x48, x49, x50, x51], []⟩ W)
    (hR : ∀ (y13 y14 y15 y16 : Value), er ≠ 0 → Q .ret ⟨#[x0, x1, .pointer (some ⟨R, 0, none⟩), .int .i64 er, .int .i64 er, x5, x6, x7, x8, x9, x10, x11, x12, y13, y14, y15, y16, x17, x18, x19, x20, x21, x22, x23, x24, x25, x26, x27, x28, x29, x30, x31, x32, x33, x34, x35, x36, x37, x38, x39, x40, x41, x42, x43, x44, x45, x46, x47, x48, x49, x50, x51], []⟩ (((W.setCell ⟨R, 0, none⟩ (.slice none 0 0)).setCell ⟨R, 1, none⟩ (.slice none 0 0)).setCell ⟨R, 2, none⟩ (.slice none 0 0))) :
    Code.wp Try.prog ((Try.f18.body.bind (pcAt 2)).getD .skip) Q ⟨#[x0, x1, .pointer (some ⟨R, 0, none⟩), x3, .int .i64 er, x5, x6, x7, x8, x9, x10, x11, x12, x13, x14, x15, x16, x17, x18, x19, x20, x21, x22, x23, x24, x25, x26, x27, x28, x29, x30, x31, x32, x33, x34, x35, x36, x37, x38, x39, x40, x41, x42, x43, x44, x45, x46, x47, x48, x49, x50, x51], []⟩ W := by
  conv => arg 2; whnf
  have HN : Hid (∀ (y3 y13 y14 y15 y16 : Value), er = 0 → Q .normal ⟨#[x0, x1, .pointer (some ⟨R, 0, none⟩), y3, .int .i64 er, x5, x6, x7, x8, x9, x10, x11, x12, y13, y14, y15, y16, x17, x18, x19, x20, x21, x22, x23, x24, x25, x26, x27, x28, x29, x30, x31, x32, x33, x34, x35, x36, x37, x38, x39, x40, x41, x42, x43, x44, x45, x46, x47, x48, x49, x50, x51], []⟩ W) := hN
  have HR : Hid (∀ (y13 y14 y15 y16 : Value), er ≠ 0 → Q .ret ⟨#[x0, x1, .pointer (some ⟨R, 0, none⟩), .int .i64 er, .int .i64 er, x5, x6, x7, x8, x9, x10, x11, x12, y13, y14, y15, y16, x17, x18, x19, x20, x21, x22, x23, x24, x25, x26, x27, x28, x29, x30, x31, x32, x33, x34, x35, x36, x37, x38, x39, x40, x41, x42, x43, x44, x45, x46, x47, x48, x49, x50, x51], []⟩ (((W.setCell ⟨R, 0, none⟩ (.slice none 0 0)).setCell ⟨R, 1, none⟩ (.slice none 0 0)).setCell ⟨R, 2, none⟩ (.slice none 0 0))) := hR
  clear hN hR
  obtain ⟨r0, r1, r2, fz⟩ := hr.cells
  have f0 := fz 0
  have f1 := fz 1
  have f2 := fz 2
  unfold TV.none at r0 r1 r2
  clear fz hr
  by_cases h0 : er = 0
  · subst h0
    clear HR
    go_wp2_with fail
    exact HN.out  _ _ _ _ _ (by first | rfl | trivial)
  · have hne : (er != 0) = true := by simp [h0]
    have HE : Hid (er ≠ 0) := h0
    clear HN h0
    go_wp2_with fail
    exact HR.out  _ _ _ _ HE.out

set_option maxRecDepth 100000 in
set_option maxHeartbeats 12800000 in
theorem jx_p4 {x0 x2 x3 x4 x5 x6 x7 x8 x9 x10 x11 x12 x13 x14 x15 x16 x17 x18 x19 x20 x21 x22 x23 x24 x25 x26 x27 x28 x29 x30 x31 x32 x33 x34 x35 x36 x37 x38 x39 x40 x41 x42 x43 x44 x45 x46 x47 x48 x49 x50 x51 : Value} {Q : Exit → Act → World → Prop} {W : World} {g b off l c l0 k0 : Nat} {p0 : Option Addr} {xs : List Int} (hg : W.cell? ⟨g, 0, none⟩ = some (.slice (some ⟨b, off, none⟩) l c)) (y0 : W.cell? ⟨b, off, none⟩ = some (.slice p0 l0 k0)) (hl : 0 < l) (hL : Lsts W p0 l0 k0 xs) (h256 : l0 ≤ 256)
    (hN : ∀ (s : Nat) (q0 : Option Addr) (n0 j0 : Nat) (wx : World) (y17 y18 y19 y20 y21 y22 : Value), TVar wx s ⟨q0, n0, j0, none, 0, 0, none, 0, 0⟩ → Lsts wx q0 n0 j0 xs → (∀ ad, q0 = some ad → ad.block ≠ s) → W.heap.size ≤ s → Below W.heap.size W wx → Q .normal ⟨#[x0, .pointer (some ⟨g, 0, none⟩), x2, x3, x4, .pointer (some ⟨s, 0, none⟩), x6, x7, x8, x9, x10, x11, x12, x13, x14, x15, x16, y17, y18, y19, y20, y21, y22, x23, x24, x25, x26, x27, x28, x29, x30, x31, x32, x33, x34, x35, x36, x37, x38, x39, x40, x41, x42, x43, x44, x45, x46, x47, x48, x49, x50, x51], []⟩ wx) :
    Code.wp Try.prog ((Try.f18.body.bind (pcAt 4)).getD .skip) Q ⟨#[x0, .pointer (some ⟨g, 0, none⟩), x2, x3, x4, x5, x6, x7, x8, x9, x10, x11, x12, x13, x14, x15, x16, x17, x18, x19, x20, x21, x22, x23, x24, x25, x26, x27, x28, x29, x30, x31, x32, x33, x34, x35, x36, x37, x38, x39, x40, x41, x42, x43, x44, x45, x46, x47, x48, x49, x50, x51], []⟩ W := by
  conv => arg 2; whnf
  have HN : Hid (∀ (s : Nat) (q0 : Option Addr) (n0 j0 : Nat) (wx : World) (y17 y18 y19 y20 y21 y22 : Value), TVar wx s ⟨q0, n0, j0, none, 0, 0, none, 0, 0⟩ → Lsts wx q0 n0 j0 xs → (∀ ad, q0 = some ad → ad.block ≠ s) → W.heap.size ≤ s → Below W.heap.size W wx → Q .normal ⟨#[x0, .pointer (some ⟨g, 0, none⟩), x2, x3, x4, .pointer (some ⟨s, 0, none⟩), x6, x7, x8, x9, x10, x11, x12, x13, x14, x15, x16, y17, y18, y19, y20, y21, y22, x23, x24, x25, x26, x27, x28, x29, x30, x31, x32, x33, x34, x35, x36, x37, x38, x39, x40, x41, x42, x43, x44, x45, x46, x47, x48, x49, x50, x51], []⟩ wx) := hN
  clear hN
  have hl1 : (0 : Int) < (l : Int) := by omega
  have HC := (show Hid _ from clone15_any p0 l0 k0 xs W hL (by omega))
  clear hL
  go_wp2_with fail
  refine Calls.mono HC.out ?_
  rintro e w5 ⟨q0, n0, j0, rfl, h1, h2, h3⟩
  have HK : Hid (TVar (w5.alloc (.cells (TV.cells ⟨q0, n0, j0, none, 0, 0, none, 0, 0⟩) 25)) w5.heap.size ⟨q0, n0, j0, none, 0, 0, none, 0, 0⟩ ∧ Lsts (w5.alloc (.cells (TV.cells ⟨q0, n0, j0, none, 0, 0, none, 0, 0⟩) 25)) q0 n0 j0 xs ∧ (∀ ad, q0 = some ad → ad.block ≠ w5.heap.size) ∧ W.heap.size ≤ w5.heap.size ∧ Below W.heap.size W (w5.alloc (.cells (TV.cells ⟨q0, n0, j0, none, 0, 0, none, 0, 0⟩) 25))) :=
    ⟨TVar.new w5 _, h1.below (balloc _ _), fun ad e => (by have := (h2 ad e).2; omega), h3.size, bthen h3 (balloc _ _)⟩
  clear HC h1 h2 h3
  go_wp2_with fail
  exact HN.out _ _ _ _ _ _ _ _ _ _ _ HK.out.1 HK.out.2.1 HK.out.2.2.1 HK.out.2.2.2.1 HK.out.2.2.2.2

set_option maxRecDepth 100000 in
set_option maxHeartbeats 12800000 in
theorem jx_p7 {x0 x1 x2 x3 x4 x5 x6 x7 x8 x9 x10 x11 x12 x13 x14 x15 x16 x17 x18 x19 x20 x21 x22 x26 x27 x28 x29 x30 x31 x32 x33 x34 x35 x36 x37 x38 x39 x40 x41 x42 x43 x44 x45 x46 x47 x48 x49 x50 x51 : Value} {Q : Exit → Act → World → Prop} {W : World} {b off l c i : Nat} {v : TV} (z0 : W.cell? ⟨b, off + i * 3, none⟩ = some (.slice v.p0 v.l0 v.c0)) (z1 : W.cell? ⟨b, off + i * 3 + 1, none⟩ = some (.slice v.p1 v.l1 v.c1)) (z2 : W.cell? ⟨b, off + i * 3 + 2, none⟩ = some (.slice v.p2 v.l2 v.c2)) (hi : i < l)
    (hN : ∀ (y27 y28 : Value), Q .normal ⟨#[x0, x1, x2, x3, x4, x5, x6, .pointer (some ⟨W.heap.size, 0, none⟩), x8, x9, x10, x11, x12, x13, x14, x15, x16, x17, x18, x19, x20, x21, x22, .slice (some ⟨b, off, none⟩) l c, .int .i64 (l : Int), .int .i64 (i : Int), x26, y27, y28, x29, x30, x31, x32, x33, x34, x35, x36, x37, x38, x39, x40, x41, x42, x43, x44, x45, x46, x47, x48, x49, x50, x51], []⟩ (W.alloc (.cells v.cells 25))) :
    Code.wp Try.prog (((Try.f18.body.bind (pcBlk 1)).bind (pcAt 7)).getD .skip) Q ⟨#[x0, x1, x2, x3, x4, x5, x6, x7, x8, x9, x10, x11, x12, x13, x14, x15, x16, x17, x18, x19, x20, x21, x22, .slice (some ⟨b, off, none⟩) l c, .int .i64 (l : Int), .int .i64 (i : Int), x26, x27, x28, x29, x30, x31, x32, x33, x34, x35, x36, x37, x38, x39, x40, x41, x42, x43, x44, x45, x46, x47, x48, x49, x50, x51], []⟩ W := by
  conv => arg 2; whnf
  have HN : Hid (∀ (y27 y28 : Value), Q .normal ⟨#[x0, x1, x2, x3, x4, x5, x6, .pointer (some ⟨W.heap.size, 0, none⟩), x8, x9, x10, x11, x12, x13, x14, x15, x16, x17, x18, x19, x20, x21, x22, .slice (some ⟨b, off, none⟩) l c, .int .i64 (l : Int), .int .i64 (i : Int), x26, y27, y28, x29, x30, x31, x32, x33, x34, x35, x36, x37, x38, x39, x40, x41, x42, x43, x44, x45, x46, x47, x48, x49, x50, x51], []⟩ (W.alloc (.cells v.cells 25))) := hN
  clear hN
  have hi1 : (i : Int) < (l : Int) := by omega
  have hi0 : (0 : Int) ≤ (i : Int) := by omega
  go_wp2_with fail
  exact HN.out  _ _ 

set_option maxRecDepth 100000 in
set_option maxHeartbeats 12800000 in
theorem jx_p8 {x0 x1 x2 x3 x4 x6 x8 x9 x10 x11 x12 x13 x14 x15 x16 x17 x18 x19 x20 x21 x22 x23 x24 x25 x26 x27 x28 x29 x30 x31 x32 x33 x34 x35 x36 x37 x38 x39 x40 x41 x42 x43 x44 x45 x46 x47 x48 x49 x50 x51 : Value} {Q : Exit → Act → World → Prop} {W : World} {s q base : Nat} {v u : TV} {bs ys : List Int} (hq : TVar W q v) (hv : TVar W s u) (hL : Lsts W v.p1 v.l1 v.c1 ys) (hO : IOwn W base (.slice u.p1 u.l1 u.c1) bs) (hn : bs.length + v.l1 < 1000000) (hbase : base ≤ W.heap.size)
    (hN : ∀ (a5 : Option Addr) (l5 c5 : Nat) (w5 : World) (y29 y30 y31 y32 y33 y34 : Value), IOwn w5 base (.slice a5 l5 c5) (bs ++ ys) → W.grownBy w5 (Value.slice u.p1 u.l1 u.c1).ownBlock → ((Value.slice a5 l5 c5).ownBlock = (Value.slice u.p1 u.l1 u.c1).ownBlock ∨ (Value.slice a5 l5 c5).ownBlock = some W.heap.size) → Q .normal ⟨#[x0, x1, x2, x3, x4, .pointer (some ⟨s, 0, none⟩), x6, .pointer (some ⟨q, 0, none⟩), x8, x9, x10, x11, x12, x13, x14, x15, x16, x17, x18, x19, x20, x21, x22, x23, x24, x25, x26, x27, x28, y29, y30, y31, y32, y33, y34, x35, x36, x37, x38, x39, x40, x41, x42, x43, x44, x45, x46, x47, x48, x49, x50, x51], []⟩ (w5.setCell ⟨s, 1, none⟩ (.slice a5 l5 c5))) :
    Code.wp Try.prog (((Try.f18.body.bind (pcBlk 1)).bind (pcAt 8)).getD .skip) Q ⟨#[x0, x1, x2, x3, x4, .pointer (some ⟨s, 0, none⟩), x6, .pointer (some ⟨q, 0, none⟩), x8, x9, x10, x11, x12, x13, x14, x15, x16, x17, x18, x19, x20, x21, x22, x23, x24, x25, x26, x27, x28, x29, x30, x31, x32, x33, x34, x35, x36, x37, x38, x39, x40, x41, x42, x43, x44, x45, x46, x47, x48, x49, x50, x51], []⟩ W := by
  conv => arg 2; whnf
  have HN : Hid (∀ (a5 : Option Addr) (l5 c5 : Nat) (w5 : World) (y29 y30 y31 y32 y33 y34 : Value), IOwn w5 base (.slice a5 l5 c5) (bs ++ ys) → W.grownBy w5 (Value.slice u.p1 u.l1 u.c1).ownBlock → ((Value.slice a5 l5 c5).ownBlock = (Value.slice u.p1 u.l1 u.c1).ownBlock ∨ (Value.slice a5 l5 c5).ownBlock = some W.heap.size) → Q .normal ⟨#[x0, x1, x2, x3, x4, .pointer (some ⟨s, 0, none⟩), x6, .pointer (some ⟨q, 0, none⟩), x8, x9, x10, x11, x12, x13, x14, x15, x16, x17, x18, x19, x20, x21, x22, x23, x24, x25, x26, x27, x28, y29, y30, y31, y32, y33, y34, x35, x36, x37, x38, x39, x40, x41, x42, x43, x44, x45, x46, x47, x48, x49, x50, x51], []⟩ (w5.setCell ⟨s, 1, none⟩ (.slice a5 l5 c5))) := hN
  clear hN
  have c1 := hv.cells.2.1
  have d1 := hq.cells.2.1
  have HX : Hid (∀ v5 w5, IOwn w5 base v5 (bs ++ ys) → W.grownBy w5 (Value.slice u.p1 u.l1 u.c1).ownBlock → (v5.ownBlock = (Value.slice u.p1 u.l1 u.c1).ownBlock ∨ v5.ownBlock = some W.heap.size) → ∃ a5 l5 c5, v5 = .slice a5 l5 c5 ∧ Hid (IOwn w5 base (.slice a5 l5 c5) (bs ++ ys) ∧ W.grownBy w5 (Value.slice u.p1 u.l1 u.c1).ownBlock ∧ ((Value.slice a5 l5 c5).ownBlock = (Value.slice u.p1 u.l1 u.c1).ownBlock ∨ (Value.slice a5 l5 c5).ownBlock = some W.heap.size)) ∧ w5.cell? ⟨s, 1, none⟩ = some (.slice u.p1 u.l1 u.c1) ∧ w5.frozen? ⟨s, 1, none⟩ = false) := fun v5 w5 h5 g5 q5 => by
    obtain ⟨a5, c5, e⟩ : ∃ a5 c5, v5 = .slice a5 (bs ++ ys).length c5 := by
      rcases h5.2 with ⟨rfl, hn⟩ | ⟨g, cap, cur, rfl, _⟩
      · exact ⟨none, 0, by rw [hn]⟩
      · exact ⟨_, _, rfl⟩
    subst e
    have hv5 : TVar w5 s u := (g5.block s hv.lt (fun e => int_var hO hv e.symm)).trans hv
    exact ⟨a5, _, c5, rfl, ⟨h5, g5, q5⟩, hv5.cells.2.1, hv5.cells.2.2.2 1⟩
  clear hv hq
  go_wp2_with (at_builtin; refine wpList_appIsAt _ rfl _ _ rfl base _ bs rfl hO v.p1 v.l1 v.c1 ys rfl hL hn hbase ?_)
  intro v5 w5 h5 g5 q5
  obtain ⟨a5, l5, c5, rfl, hF, e1, e2⟩ := HX.out v5 w5 h5 g5 q5
  clear h5 g5 q5 HX hL hO hn hbase c1 d1
  go_wp2_with fail
  exact HN.out _ _ _ _ _ _ _ _ _ _ hF.out.1 hF.out.2.1 hF.out.2.2

set_option maxRecDepth 100000 in
set_option maxHeartbeats 12800000 in
theorem jx_p15 {x0 x1 x3 x4 x6 x7 x8 x9 x10 x11 x12 x13 x14 x15 x16 x17 x18 x19 x20 x21 x22 x23 x24 x25 x26 x27 x28 x29 x30 x31 x32 x33 x34 x35 x36 x37 x38 x39 x40 x41 x42 x43 x44 x45 x46 x47 x48 x49 x50 x51 : Value} {Q : Exit → Act → World → Prop} {W : World} {R s : Nat} {u : TV} (hr : TVar W R TV.none) (hv : TVar W s u)
    (hR : ∀ (y51 : Value), Q .ret ⟨#[x0, x1, .pointer (some ⟨R, 0, none⟩), .int .i64 0, x4, .pointer (some ⟨s, 0, none⟩), x6, x7, x8, x9, x10, x11, x12, x13, x14, x15, x16, x17, x18, x19, x20, x21, x22, x23, x24, x25, x26, x27, x28, x29, x30, x31, x32, x33, x34, x35, x36, x37, x38, x39, x40, x41, x42, x43, x44, x45, x46, x47, x48, x49, x50, y51], []⟩ (((W.setCell ⟨R, 0, none⟩ (.slice u.p0 u.l0 u.c0)).setCell ⟨R, 1, none⟩ (.slice u.p1 u.l1 u.c1)).setCell ⟨R, 2, none⟩ (.slice u.p2 u.l2 u.c2))) :
    Code.wp Try.prog ((Try.f18.body.bind (pcFrom 15)).getD .skip) Q ⟨#[x0, x1, .pointer (some ⟨R, 0, none⟩), x3, x4, .pointer (some ⟨s, 0, none⟩), x6, x7, x8, x9, x10, x11, x12, x13, x14, x15, x16, x17, x18, x19, x20, x21, x22, x23, x24, x25, x26, x27, x28, x29, x30, x31, x32, x33, x34, x35, x36, x37, x38, x39, x40, x41, x42, x43, x44, x45, x46, x47, x48, x49, x50, x51], []⟩ W := by
  conv => arg 2; whnf
  have HR : Hid (∀ (y51 : Value), Q .ret ⟨#[x0, x1, .pointer (some ⟨R, 0, none⟩), .int .i64 0, x4, .pointer (some ⟨s, 0, none⟩), x6, x7, x8, x9, x10, x11, x12, x13, x14, x15, x16, x17, x18, x19, x20, x21, x22, x23, x24, x25, x26, x27, x28, x29, x30, x31, x32, x33, x34, x35, x36, x37, x38, x39, x40, x41, x42, x43, x44, x45, x46, x47, x48, x49, x50, y51], []⟩ (((W.setCell ⟨R, 0, none⟩ (.slice u.p0 u.l0 u.c0)).setCell ⟨R, 1, none⟩ (.slice u.p1 u.l1 u.c1)).setCell ⟨R, 2, none⟩ (.slice u.p2 u.l2 u.c2))) := hR
  clear hR
  obtain ⟨c0, c1, c2, -⟩ := hv.cells
  clear hv
  obtain ⟨r0, r1, r2, fz⟩ := hr.cells
  have f0 := fz 0
  have f1 := fz 1
  have f2 := fz 2
  unfold TV.none at r0 r1 r2
  clear fz hr
  go_wp2_with fail
  exact HR.out  _ 

set_option maxRecDepth 100000 in
set_option maxHeartbeats 12800000 in
theorem jx_p12 {x0 x1 x2 x3 x4 x6 x7 x8 x10 x11 x12 x13 x14 x15 x16 x17 x18 x19 x20 x21 x22 x23 x24 x25 x26 x27 x28 x29 x30 x31 x32 x33 x34 x35 x36 x37 x38 x39 x40 x41 x42 x43 x44 x45 x46 x47 x48 x49 x50 x51 : Value} {Q : Exit → Act → World → Prop} {W : World} {s nc kc base : Nat} {pc : Option Addr} {u : TV} {cs : List (List Int)} {col : List Int} {Qp : Nat → Prop} (hLc : Lsts W pc nc kc col) (hnc : nc < 1000000) (hv : TVar W s u) (hC : LHd Qp W base (.slice u.p2 u.l2 u.c2) cs) (hcs : cs.length < 1000000) (hbase : base ≤ W.heap.size)
    (hN : ∀ (a6 : Option Addr) (l6 c6 : Nat) (w6 : World) (y42 y43 y44 y45 y46 y47 y48 : Value), LHd (fun b => Qp b ∨ (W.heap.size ≤ b ∧ b < w6.heap.size)) w6 base (.slice a6 l6 c6) (cs ++ [col]) → Only (fun b => (Value.slice u.p2 u.l2 u.c2).ownBlock = some b) W w6 → Q .normal ⟨#[x0, x1, x2, x3, x4, .pointer (some ⟨s, 0, none⟩), x6, x7, x8, .slice pc nc kc, x10, x11, x12, x13, x14, x15, x16, x17, x18, x19, x20, x21, x22, x23, x24, x25, x26, x27, x28, x29, x30, x31, x32, x33, x34, x35, x36, x37, x38, x39, x40, x41, y42, y43, y44, y45, y46, y47, y48, x49, x50, x51], []⟩ (w6.setCell ⟨s, 2, none⟩ (.slice a6 l6 c6))) :
    Code.wp Try.prog (((Try.f18.body.bind (pcBlk 3)).bind (pcFrom 12)).getD .skip) Q ⟨#[x0, x1, x2, x3, x4, .pointer (some ⟨s, 0, none⟩), x6, x7, x8, .slice pc nc kc, x10, x11, x12, x13, x14, x15, x16, x17, x18, x19, x20, x21, x22, x23, x24, x25, x26, x27, x28, x29, x30, x31, x32, x33, x34, x35, x36, x37, x38, x39, x40, x41, x42, x43, x44, x45, x46, x47, x48, x49, x50, x51], []⟩ W := by
  conv => arg 2; whnf
  have HN : Hid (∀ (a6 : Option Addr) (l6 c6 : Nat) (w6 : World) (y42 y43 y44 y45 y46 y47 y48 : Value), LHd (fun b => Qp b ∨ (W.heap.size ≤ b ∧ b < w6.heap.size)) w6 base (.slice a6 l6 c6) (cs ++ [col]) → Only (fun b => (Value.slice u.p2 u.l2 u.c2).ownBlock = some b) W w6 → Q .normal ⟨#[x0, x1, x2, x3, x4, .pointer (some ⟨s, 0, none⟩), x6, x7, x8, .slice pc nc kc, x10, x11, x12, x13, x14, x15, x16, x17, x18, x19, x20, x21, x22, x23, x24, x25, x26, x27, x28, x29, x30, x31, x32, x33, x34, x35, x36, x37, x38, x39, x40, x41, y42, y43, y44, y45, y46, y47, y48, x49, x50, x51], []⟩ (w6.setCell ⟨s, 2, none⟩ (.slice a6 l6 c6))) := hN
  clear hN
  have c2 := hv.cells.2.2.1
  have HCl : Hid (∀ wx, Below W.heap.size W wx → Calls Try.prog 31 #[.slice pc nc kc] wx fun e w' => ∃ a l c, e = .returned (.slice a l c) ∧ Hid (LE (fun b => Qp b ∨ (W.heap.size ≤ b ∧ b < w'.heap.size)) w' a l c col ∧ LHd (fun b => Qp b ∨ (W.heap.size ≤ b ∧ b < w'.heap.size)) w' base (.slice u.p2 u.l2 u.c2) cs) ∧ Below W.heap.size W w' ∧ (w'.cell? ⟨s, 2, none⟩ = some (.slice u.p2 u.l2 u.c2) ∧ (w'.alloc (.cells #[.slice a l c] 22)).cell? ⟨s, 2, none⟩ = some (.slice u.p2 u.l2 u.c2) ∧ (w'.alloc (.cells #[.slice a l c] 22)).cell? ⟨w'.heap.size, 0, none⟩ = some (.slice a l c) ∧ (w'.drew.alloc (.cells #[.slice a l c] 22)).cell? ⟨s, 2, none⟩ = some (.slice u.p2 u.l2 u.c2) ∧ (w'.drew.alloc (.cells #[.slice a l c] 22)).cell? ⟨w'.heap.size, 0, none⟩ = some (.slice a l c))) := fun wx hb => (clone15_any pc nc kc col wx (hLc.below hb) hnc).mono (fun e w' q => by
    obtain ⟨a, l, c, rfl, h1, h2, h3⟩ := q
    have hbw := bthen hb h3
    have hba := bthen hbw (balloc w' (.cells #[.slice a l c] 22))
    have hbd := bthen (bdr12 hbw) (balloc w'.drew (.cells #[.slice a l c] 22))
    exact ⟨a, l, c, rfl, ⟨⟨h1, fun ad e => .inr ⟨Nat.le_trans hb.size (h2 ad e).1, (h2 ad e).2⟩⟩, hC.only (Only.of_below (T := fun _ => False) hbw) (fun _ _ e => e) (fun b q => ⟨fun e => e, .inl q⟩)⟩, hbw, (hv.below hbw).cells.2.2.1, (hv.below hba).cells.2.2.1, by simp, (hv.below hbd).cells.2.2.1, World.cell?_alloc_new w'.drew _ _ _⟩)
  have HZ : Hid (cs.length < 1000000) := hcs
  have HBs : Hid (∀ wx, Below W.heap.size W wx → base ≤ wx.heap.size) := fun wx h => Nat.le_trans hbase h.size
  have HY : Hid (∀ (w4 w5 w6 : World) (v6 : Value), Below W.heap.size W w5 → w4.heap.size ≤ w5.heap.size → LHd (fun b => Qp b ∨ (W.heap.size ≤ b ∧ b < w4.heap.size)) w6 base v6 (cs ++ [col]) → w5.grownBy w6 (Value.slice u.p2 u.l2 u.c2).ownBlock → ∃ a6 l6 c6, v6 = .slice a6 l6 c6 ∧ (w6.cell? ⟨s, 2, none⟩ = some (.slice u.p2 u.l2 u.c2) ∧ w6.frozen? ⟨s, 2, none⟩ = false) ∧ Hid (LHd (fun b => Qp b ∨ (W.heap.size ≤ b ∧ b < w6.heap.size)) w6 base (.slice a6 l6 c6) (cs ++ [col]) ∧ Only (fun b => (Value.slice u.p2 u.l2 u.c2).ownBlock = some b) W w6)) := fun w4 w5 w6 v6 hb h4 h6 g6 => by
    obtain ⟨a6, c6, e, -⟩ := h6.row
    have hv6 : TVar w6 s u := (g6.block s (hv.below hb).lt (fun e => rows_var hC hv e.symm)).trans (hv.below hb)
    have hsz := g6.size
    subst e
    exact ⟨a6, _, c6, rfl, ⟨hv6.cells.2.2.1, hv6.cells.2.2.2 2⟩, h6.only (Only.refl (fun _ => False) w6) (fun _ _ e => e) (fun b q => ⟨fun e => e, q.imp id (fun z => ⟨z.1, by omega⟩)⟩), (Only.of_below hb).trans (Only.of_grown g6 (fun b e => e)) (fun b e => .inl e)⟩
  clear hLc hnc hv hC hcs hbase
  refine wp_pcOnly ?_
  go_wp2_with fail
  go_region_law (first
    | (refine step_appLH _ rfl (.tmp 43) (.tmp 46) 23 rfl Try.underlying23 base _ cs (by rfl) (h5.out.2.below (by repeat (first | exact Below.refl _ _ | assumption | refine bdr12 ?_ | refine bgr12 ?_ _ | fail))) _ _ _ _ col (by rfl) (by assumption) (h5.out.1.below (by repeat (first | exact Below.refl _ _ | assumption | refine bdr12 ?_ | refine bgr12 ?_ _ | fail))) HZ.out (HBs.out _ (by repeat (first | exact Below.refl _ _ | assumption | refine bdr12 ?_ | refine bgr12 ?_ _ | fail))) ?_; intro v6 w6 h6 g6; obtain ⟨a6, l6, c6, rfl, ⟨e6, f6⟩, hG⟩ := HY.out w5 _ w6 v6 (by repeat (first | exact Below.refl _ _ | assumption | refine bdr12 ?_ | refine bgr12 ?_ _ | fail)) (by first | exact Nat.le_refl _ | (simp; done) | (simp; omega)) h6 g6; clear h6 g6)
    | (refine step_call15 rfl 31 #[.slice pc nc kc] (by simp [go_sem, Try.call31]) (HCl.out _ (by repeat (first | exact Below.refl _ _ | assumption | refine bdr12 ?_ | refine bgr12 ?_ _ | fail))) ?_; rintro e w5 ⟨a5, n5, c5, rfl, h5, b5, e51, e52, e53, e54, e55⟩; refine ⟨_, rfl, ?_⟩)
    | fail)
  all_goals
    go_wp2_with fail
    exact HN.out _ _ _ _ _ _ _ _ _ _ _ hG.out.1 hG.out.2

end Go.Proofs.Ytaiikhbfnfcalaa

namespace Go.Proofs.Ytaiikhbfnfcalaa
open Go.RowKit

set_option maxRecDepth 100000 in
set_option maxHeartbeats 12800000 in
theorem jx_p13 {x0 x1 x2 x3 x4 x5 x6 x7 x8 x9 x10 x11 x12 x13 x14 x15 x16 x17 x18 x19 x20 x21 x22 x23 x24 x25 x26 x27 x28 x29 x30 x31 x32 x33 x34 x35 x36 x37 x39 x40 x41 x42 x43 x44 x45 x46 x47 x48 x49 x50 x51 : Value} {Q : Exit → Act → World → Prop} {W : World} {i : Nat} (h : i < 9223372036854775807)
    (hN : ∀ (y49 : Value), Q .normal ⟨#[x0, x1, x2, x3, x4, x5, x6, x7, x8, x9, x10, x11, x12, x13, x14, x15, x16, x17, x18, x19, x20, x21, x22, x23, x24, x25, x26, x27, x28, x29, x30, x31, x32, x33, x34, x35, x36, x37, .int .i64 ((i + 1 : Nat) : Int), x39, x40, x41, x42, x43, x44, x45, x46, x47, x48, y49, x50, x51], []⟩ W) :
    Code.wp Try.prog (((Try.f18.body.bind (pcLoop 2)).bind (pcAt 13)).getD .skip) Q ⟨#[x0, x1, x2, x3, x4, x5, x6, x7, x8, x9, x10, x11, x12, x13, x14, x15, x16, x17, x18, x19, x20, x21, x22, x23, x24, x25, x26, x27, x28, x29, x30, x31, x32, x33, x34, x35, x36, x37, .int .i64 (i : Int), x39, x40, x41, x42, x43, x44, x45, x46, x47, x48, x49, x50, x51], []⟩ W := by
  conv => arg 2; whnf
  have HN : Hid (∀ (y49 : Value), Q .normal ⟨#[x0, x1, x2, x3, x4, x5, x6, x7, x8, x9, x10, x11, x12, x13, x14, x15, x16, x17, x18, x19, x20, x21, x22, x23, x24, x25, x26, x27, x28, x29, x30, x31, x32, x33, x34, x35, x36, x37, .int .i64 ((i + 1 : Nat) : Int), x39, x40, x41, x42, x43, x44, x45, x46, x47, x48, y49, x50, x51], []⟩ W) := hN
  clear hN
  have e : ((i + 1 : Nat) : Int) = (i : Int) + 1 := by omega
  rw [e] at HN
  go_wp2_with fail
  exact HN.out  _ 

set_option maxRecDepth 100000 in
set_option maxHeartbeats 12800000 in
theorem jx_p14 {x0 x1 x2 x3 x4 x5 x6 x7 x8 x9 x10 x11 x12 x13 x14 x15 x16 x17 x18 x19 x20 x21 x22 x23 x24 x26 x27 x28 x29 x30 x31 x32 x33 x34 x35 x36 x37 x38 x39 x40 x41 x42 x43 x44 x45 x46 x47 x48 x49 x50 x51 : Value} {Q : Exit → Act → World → Prop} {W : World} {i : Nat} (h : i < 9223372036854775807)
    (hN : ∀ (y50 : Value), Q .normal ⟨#[x0, x1, x2, x3, x4, x5, x6, x7, x8, x9, x10, x11, x12, x13, x14, x15, x16, x17, x18, x19, x20, x21, x22, x23, x24, .int .i64 ((i + 1 : Nat) : Int), x26, x27, x28, x29, x30, x31, x32, x33, x34, x35, x36, x37, x38, x39, x40, x41, x42, x43, x44, x45, x46, x47, x48, x49, y50, x51], []⟩ W) :
    Code.wp Try.prog (((Try.f18.body.bind (pcLoop 0)).bind (pcAt 14)).getD .skip) Q ⟨#[x0, x1, x2, x3, x4, x5, x6, x7, x8, x9, x10, x11, x12, x13, x14, x15, x16, x17, x18, x19, x20, x21, x22, x23, x24, .int .i64 (i : Int), x26, x27, x28, x29, x30, x31, x32, x33, x34, x35, x36, x37, x38, x39, x40, x41, x42, x43, x44, x45, x46, x47, x48, x49, x50, x51], []⟩ W := by
  conv => arg 2; whnf
  have HN : Hid (∀ (y50 : Value), Q .normal ⟨#[x0, x1, x2, x3, x4, x5, x6, x7, x8, x9, x10, x11, x12, x13, x14, x15, x16, x17, x18, x19, x20, x21, x22, x23, x24, .int .i64 ((i + 1 : Nat) : Int), x26, x27, x28, x29, x30, x31, x32, x33, x34, x35, x36, x37, x38, x39, x40, x41, x42, x43, x44, x45, x46, x47, x48, x49, y50, x51], []⟩ W) := hN
  clear hN
  have e : ((i + 1 : Nat) : Int) = (i : Int) + 1 := by omega
  rw [e] at HN
  go_wp2_with fail
  exact HN.out  _ 

set_option maxRecDepth 100000 in
set_option maxHeartbeats 12800000 in
theorem jx_l2 {x0 x1 x2 x3 x4 x6 x8 x9 x10 x11 x12 x13 x14 x15 x16 x17 x18 x19 x20 x21 x22 x23 x24 x25 x26 x27 x28 x29 x30 x31 x32 x33 x34 x35 x36 x37 x38 x39 x40 x41 x42 x43 x44 x45 x46 x47 x48 x49 x50 x51 : Value} {Q : Exit → Act → World → Prop} {X W : World} {R s q l0 j0 : Nat} {q0 : Option Addr} {v u : TV} {t : Tab} {bs : List Int} {cs : List (List Int)} (hq : TVar W q v) (ht : ∀ wx, Only (fun b => b = s) X wx → TabAt wx v t) (hJ : JoAt X R s q0 l0 j0 u bs cs W) (hok : TabOk t) (hcs : cs.length ≤ 300)
    (hN : ∀ (u' : TV) (wx : World) (y9 y35 y36 y37 y38 y39 y40 y41 y42 y43 y44 y45 y46 y47 y48 y49 : Value), JoAt X R s q0 l0 j0 u' bs (cs ++ t.cols) wx → Q .normal ⟨#[x0, x1, x2, x3, x4, .pointer (some ⟨s, 0, none⟩), x6, .pointer (some ⟨q, 0, none⟩), x8, y9, x10, x11, x12, x13, x14, x15, x16, x17, x18, x19, x20, x21, x22, x23, x24, x25, x26, x27, x28, x29, x30, x31, x32, x33, x34, y35, y36, y37, y38, y39, y40, y41, y42, y43, y44, y45, y46, y47, y48, y49, x50, x51], []⟩ wx) :
    Code.wp Try.prog (((Try.f18.body.bind (pcBlk 1)).bind (pcFrom 9)).getD .skip) Q ⟨#[x0, x1, x2, x3, x4, .pointer (some ⟨s, 0, none⟩), x6, .pointer (some ⟨q, 0, none⟩), x8, x9, x10, x11, x12, x13, x14, x15, x16, x17, x18, x19, x20, x21, x22, x23, x24, x25, x26, x27, x28, x29, x30, x31, x32, x33, x34, x35, x36, x37, x38, x39, x40, x41, x42, x43, x44, x45, x46, x47, x48, x49, x50, x51], []⟩ W := by
  conv => arg 2; whnf
  have HN : Hid (∀ (u' : TV) (wx : World) (y9 y35 y36 y37 y38 y39 y40 y41 y42 y43 y44 y45 y46 y47 y48 y49 : Value), JoAt X R s q0 l0 j0 u' bs (cs ++ t.cols) wx → Q .normal ⟨#[x0, x1, x2, x3, x4, .pointer (some ⟨s, 0, none⟩), x6, .pointer (some ⟨q, 0, none⟩), x8, y9, x10, x11, x12, x13, x14, x15, x16, x17, x18, x19, x20, x21, x22, x23, x24, x25, x26, x27, x28, x29, x30, x31, x32, x33, x34, y35, y36, y37, y38, y39, y40, y41, y42, y43, y44, y45, y46, y47, y48, y49, x50, x51], []⟩ wx) := hN
  clear hN
  have hcl := (ht _ hJ.only).cols.hlen
  have h16 := hok.few
  have hf := hok.ids.few
  have m2 := (ht _ hJ.only).cols.hmax
  have m2' := (ht _ hJ.only).cols.hcap
  unfold maxLen at m2
  obtain ⟨-, -, d2, -⟩ := hq.cells
  have HH : Hid (t.cols.length = v.l2 ∧ v.l2 ≤ 16 ∧ cs.length ≤ 300 ∧ t.ids.length ≤ 256) := ⟨hcl, by omega, hcs, hf⟩
  have HT : Hid (∀ wx, Only (fun b => b = s) X wx → TabAt wx v t) := ht
  have HOk : Hid (TabOk t) := hok
  obtain ⟨p0, lv0, k0, p1, l1, k1, p2, l2, k2⟩ := v
  dsimp only at *
  clear hcl h16 hf ht hok hq hcs
  refine pcSeq (fun Q1 n1 r1 _ => ?_)
  go_wp2_with fail
  refine n1 _ _ (pcBlock (fun Q2 n2 e2 r2 => ?_))
  clear d2
  go_loopw [38] (fun v38 wr => ∃ (k : Nat) (u' : TV), v38 = .int .i64 (k : Int) ∧ k ≤ l2 ∧ JoAt X R s q0 l0 j0 u' bs (cs ++ t.cols.take k) wr) (fun v38 _ => l2 - (intOf v38).toNat)
  case atStart => exact ⟨0, u, rfl, Nat.zero_le _, by rw [List.take_zero, List.append_nil]; exact hJ⟩
  case round =>
    clear hJ
    obtain ⟨k, u', rfl, hk, hJ⟩ := hrel
    by_cases hlt : k < l2
    · have hlti : (k : Int) < (l2 : Int) := by omega
      have hk0 : (0 : Int) ≤ (k : Int) := by omega
      obtain ⟨b1, o1, pc, nc, kc, e1, mk, hLc⟩ := (HT.out _ hJ.only).cols.at15 hlt
      have hcok := HOk.out.col k (by rw [HH.out.1]; exact hlt)
      have HL : Hid (Lsts wr pc nc kc (t.cols.getD k []) ∧ nc < 1000000) := ⟨hLc, by have := hLc.hlen; have := hcok.len; have := HH.out.2.2.2; omega⟩
      have HJ : Hid (JoAt X R s q0 l0 j0 u' bs (cs ++ t.cols.take k) wr) := hJ
      clear hLc hcok hJ
      dsimp only at e1
      subst e1
      go_wp2_with fail
      refine jx_p12 (u := u') HL.out.1 HL.out.2 HJ.out.var HJ.out.cols (by have := HH.out; simp; omega) HJ.out.only.size ?_
      intro a6 l6 c6 w6
      intros
      rename_i g1 g2
      have HJ2 : Hid (JoAt X R s q0 l0 j0 ⟨u'.p0, u'.l0, u'.c0, u'.p1, u'.l1, u'.c1, a6, l6, c6⟩ bs (cs ++ t.cols.take (k + 1)) (w6.setCell ⟨s, 2, none⟩ (.slice a6 l6 c6))) := by
        have := HJ.out.col g1 g2
        rw [takeC (by rw [HH.out.1]; exact hlt), ← List.append_assoc]
        exact this
      clear HJ g1 g2 HL
      go_wp2
      go_roundw
      case rel => exact ⟨k + 1, _, by go_num, hlt, HJ2.out⟩
      case measure => simp [intOf]; omega
    · obtain rfl : k = l2 := by omega
      have HJ2 : Hid (JoAt X R s q0 l0 j0 u' bs (cs ++ t.cols) wr) := by
        have := hJ
        rw [show t.cols.take k = t.cols from List.take_of_length_le (by rw [HH.out.1]; exact Nat.le_refl _)] at this
        exact this
      clear hJ
      go_wp2_with fail
      first
        | exact e2 _ _ (HN.out _ _ _ _ _ _ _ _ _ _ _ _ _ _ _ _ _ _ HJ2.out)
        | exact HN.out _ _ _ _ _ _ _ _ _ _ _ _ _ _ _ _ _ _ HJ2.out

set_option maxRecDepth 100000 in
set_option maxHeartbeats 12800000 in
theorem jx_l0 {x0 x2 x3 x4 x6 x7 x8 x9 x10 x11 x12 x13 x14 x15 x16 x17 x18 x19 x20 x21 x22 x23 x24 x25 x26 x27 x28 x29 x30 x31 x32 x33 x34 x35 x36 x37 x38 x39 x40 x41 x42 x43 x44 x45 x46 x47 x48 x49 x50 x51 : Value} {Q : Exit → Act → World → Prop} {w X W : World} {g R s b off l c l0 j0 : Nat} {q0 : Option Addr} {ts : List Tab} {u : TV} (hg : W.cell? ⟨g, 0, none⟩ = some (.slice (some ⟨b, off, none⟩) l c)) (h : TRows w (some ⟨b, off, none⟩) l c ts) (hl : l ≤ 16) (hw : ∀ W', Only (fun b => b = s) X W' → Below w.heap.size w W') (hJ : JoAt X R s q0 l0 j0 u [] [] W) (hok : JoinOk ts)
    (hN : ∀ (u' : TV) (wx : World) (y7 y9 y23 y24 y25 y26 y27 y28 y29 y30 y31 y32 y33 y34 y35 y36 y37 y38 y39 y40 y41 y42 y43 y44 y45 y46 y47 y48 y49 y50 : Value), JoAt X R s q0 l0 j0 u' (ts.flatMap (·.bins)) (ts.flatMap (·.cols)) wx → Q .normal ⟨#[x0, .pointer (some ⟨g, 0, none⟩), x2, x3, x4, .pointer (some ⟨s, 0, none⟩), x6, y7, x8, y9, x10, x11, x12, x13, x14, x15, x16, x17, x18, x19, x20, x21, x22, y23, y24, y25, y26, y27, y28, y29, y30, y31, y32, y33, y34, y35, y36, y37, y38, y39, y40, y41, y42, y43, y44, y45, y46, y47, y48, y49, y50, x51], []⟩ wx) :
    Code.wp Try.prog ((Try.f18.body.bind (pcAt 5)).getD .skip) Q ⟨#[x0, .pointer (some ⟨g, 0, none⟩), x2, x3, x4, .pointer (some ⟨s, 0, none⟩), x6, x7, x8, x9, x10, x11, x12, x13, x14, x15, x16, x17, x18, x19, x20, x21, x22, x23, x24, x25, x26, x27, x28, x29, x30, x31, x32, x33, x34, x35, x36, x37, x38, x39, x40, x41, x42, x43, x44, x45, x46, x47, x48, x49, x50, x51], []⟩ W := by
  conv => arg 2; whnf
  have HN : Hid (∀ (u' : TV) (wx : World) (y7 y9 y23 y24 y25 y26 y27 y28 y29 y30 y31 y32 y33 y34 y35 y36 y37 y38 y39 y40 y41 y42 y43 y44 y45 y46 y47 y48 y49 y50 : Value), JoAt X R s q0 l0 j0 u' (ts.flatMap (·.bins)) (ts.flatMap (·.cols)) wx → Q .normal ⟨#[x0, .pointer (some ⟨g, 0, none⟩), x2, x3, x4, .pointer (some ⟨s, 0, none⟩), x6, y7, x8, y9, x10, x11, x12, x13, x14, x15, x16, x17, x18, x19, x20, x21, x22, y23, y24, y25, y26, y27, y28, y29, y30, y31, y32, y33, y34, y35, y36, y37, y38, y39, y40, y41, y42, y43, y44, y45, y46, y47, y48, y49, y50, x51], []⟩ wx) := hN
  clear hN
  have hlen := h.hlen
  refine pcSeq (fun Q1 n1 r1 _ => ?_)
  go_wp2_with fail
  refine n1 _ _ (pcBlock (fun Q2 n2 e2 r2 => ?_))
  clear hg
  go_loopw [25] (fun v25 wr => ∃ (i : Nat) (u' : TV), v25 = .int .i64 (i : Int) ∧ i ≤ l ∧ JoAt X R s q0 l0 j0 u' ((ts.take i).flatMap (·.bins)) ((ts.take i).flatMap (·.cols)) wr ∧ ((ts.take i).flatMap (·.bins)).length ≤ i * 16 ∧ ((ts.take i).flatMap (·.cols)).length ≤ i * 16) (fun v25 _ => l - (intOf v25).toNat)
  case atStart => exact ⟨0, u, rfl, Nat.zero_le _, hJ, Nat.zero_le _, Nat.zero_le _⟩
  case round =>
    clear hJ
    obtain ⟨i, u', rfl, hi, hJ, hbl, hcl⟩ := hrel
    refine pcSeq (fun Q3 n3 r3 e3 => ?_)
    by_cases hlt : i < l
    · have hlti : (i : Int) < (l : Int) := by omega
      go_wp2_with fail
      refine n3 _ _ (pcSeq (fun Q4 n4 r4 e4 => ?_))
      go_wp2_with fail
      have hil : i < ts.length := by omega
      obtain ⟨hti, -⟩ := hok i hil
      have hlb := hti.len
      have hl16 := hti.few
      refine n4 _ _ (pcSeq (fun Q5 n5 r5 e5 => pcBlock (fun Q6 n6 e6 r6 => ?_)))
      obtain ⟨b', off', v, ea, ⟨y0, y1, y2⟩, htw⟩ := h.at hlt
      cases ea
      have hTT : ∀ wx, Only (fun b => b = s) X wx → TabAt wx v (ts.getD i Tab.none) := fun wx o => htw.below (hw wx o)
      have z0 := bkeep (hw _ hJ.only) y0 rfl
      have z1 := bkeep (hw _ hJ.only) y1 rfl
      have z2 := bkeep (hw _ hJ.only) y2 rfl
      have ht := hTT _ hJ.only
      have hvl := ht.bins.hlen
      refine pcSeq (fun Q7 n7 r7 e7 => jx_p7 z0 z1 z2 hlt ?_)
      intros
      have hbv := balloc wr (.cells v.cells 25)
      have hJ1 := hJ.grow hbv
      have hq := TVar.new wr v
      refine n7 _ _ (pcSeq (fun Q8 n8 r8 e8 => jx_p8 hq hJ1.var (ht.below hbv).bins hJ1.bins (by omega) hJ1.only.size ?_))
      intro a5 l5 c5 w5
      intros
      rename_i g1 g2 g3
      have hJ2 := hJ1.more g1 g2 g3
      have hqs : wr.heap.size ≠ s := by have := hJ.var.lt; omega
      have hq2 : TVar (w5.setCell ⟨s, 1, none⟩ (.slice a5 l5 c5)) wr.heap.size v := (heap_setCell_other w5 ⟨s, 1, none⟩ wr.heap.size _ hqs).trans ((g2.block _ hq.lt (fun e => int_var hJ1.bins hq e.symm)).trans hq)
      have hHT : ∀ wx, Only (fun b => b = s) X wx → TabAt wx v (ts.getD i Tab.none) := fun wx o => hTT wx o
      refine n8 _ _ (jx_l2 (X := X) hq2 hHT hJ2 hti (by omega) ?_)
      intro u2 wx
      intros
      rename_i hJ3
      refine n6 _ _ (n5 _ _ (jx_p14 (by omega) ?_))
      intros
      dsimp only [Exit.then]
      go_roundw
      case rel =>
        refine ⟨i + 1, u2, by go_num, hlt, ?_, ?_, ?_⟩
        · rw [takeT hil, List.flatMap_append, List.flatMap_append]
          simpa using hJ3
        · have e : ([ts.getD i Tab.none].flatMap (·.bins)).length = (ts.getD i Tab.none).bins.length := by simp
          rw [takeT hil, List.flatMap_append, List.length_append, e]
          omega
        · have e : ([ts.getD i Tab.none].flatMap (·.cols)).length = (ts.getD i Tab.none).cols.length := by simp
          rw [takeT hil, List.flatMap_append, List.length_append, e]
          omega
      case measure => simp [intOf]; omega
    · have hlti : decide (i < l) = false := decide_eq_false hlt
      obtain rfl : i = l := by omega
      rw [← hlen, List.take_length] at hJ
      go_wp2_with fail
      refine n3 _ _ (pcSeq (fun Q4 n4 r4 e4 => ?_))
      go_wp2_with fail
      first
        | exact e2 _ _ (HN.out _ _ _ _ _ _ _ _ _ _ _ _ _ _ _ _ _ _ _ _ _ _ _ _ _ _ _ _ _ _ _ _ hJ)
        | exact HN.out _ _ _ _ _ _ _ _ _ _ _ _ _ _ _ _ _ _ _ _ _ _ _ _ _ _ _ _ _ _ _ _ hJ

end Go.Proofs.Ytaiikhbfnfcalaa

namespace Go.Proofs.Ytaiikhbfnfcalaa
open Go.RowKit

set_option maxRecDepth 100000 in
theorem jx_ret {x0 x1 x4 x5 x6 x7 x8 x9 x10 x11 x12 x13 x14 x15 x16 x17 x18 x19 x20 x21 x22 x23 x24 x25 x26 x27 x28 x29 x30 x31 x32 x33 x34 x35 x36 x37 x38 x39 x40 x41 x42 x43 x44 x45 x46 x47 x48 x49 x50 x51 : Value} {R : Nat} {u : TV} {er : Int} {post : Ending → World → Prop} {W : World} (hr : TVar W R u) (h : post (.returned (.tuple #[.agg #[.slice u.p0 u.l0 u.c0, .slice u.p1 u.l1 u.c1, .slice u.p2 u.l2 u.c2], .int .i64 er])) W) : bodyPost Try.prog Try.f18 post .ret ⟨#[x0, x1, .pointer (some ⟨R, 0, none⟩), .int .i64 er, x4, x5, x6, x7, x8, x9, x10, x11, x12, x13, x14, x15, x16, x17, x18, x19, x20, x21, x22, x23, x24, x25, x26, x27, x28, x29, x30, x31, x32, x33, x34, x35, x36, x37, x38, x39, x40, x41, x42, x43, x44, x45, x46, x47, x48, x49, x50, x51], []⟩ W := by
  obtain ⟨r0, r1, r2, -⟩ := hr.cells
  exact bodyPost_ret (v := .tuple #[.agg #[.slice u.p0 u.l0 u.c0, .slice u.p1 u.l1 u.c1, .slice u.p2 u.l2 u.c2], .int .i64 er]) (by simp [results, Try.results18, go_sem, r0, r1, r2]) rfl h

set_option maxRecDepth 100000 in
set_option maxHeartbeats 3200000 in
theorem x15join_any (a : Option Addr) (l c : Nat) (ts : List Tab) (w : World) (h : TRows w a l c ts) : Calls Try.prog 18 #[.slice a l c] w fun e w' => TabT15 (ResJoin15 ts) w e w' := by
  have hlen := h.hlen
  have hb1 := balloc w (.cells #[.slice a l c] 37)
  have hb2 := balloc (w.alloc (.cells #[.slice a l c] 37)) (.cells TV.none.cells 25)
  have hb0 := bthen hb1 hb2
  have hg0 : ((w.alloc (.cells #[.slice a l c] 37)).alloc (.cells TV.none.cells 25)).cell? ⟨w.heap.size, 0, none⟩ = some (.slice a l c) := bkeep hb2 (by simp) rfl
  have hr0 : TVar ((w.alloc (.cells #[.slice a l c] 37)).alloc (.cells TV.none.cells 25)) (w.heap.size + 1) TV.none := (TVar.new _ TV.none).at15 (by simp)
  have hNone : ∀ (W : World) (er : Int), TVar W (w.heap.size + 1) TV.none → Below w.heap.size w W → ResJoin15 ts er Tab.none → TVar (((W.setCell ⟨w.heap.size + 1, 0, none⟩ (.slice none 0 0)).setCell ⟨w.heap.size + 1, 1, none⟩ (.slice none 0 0)).setCell ⟨w.heap.size + 1, 2, none⟩ (.slice none 0 0)) (w.heap.size + 1) TV.none ∧ TabT15 (ResJoin15 ts) w (.returned (.tuple #[.agg #[.slice TV.none.p0 TV.none.l0 TV.none.c0, .slice TV.none.p1 TV.none.l1 TV.none.c1, .slice TV.none.p2 TV.none.l2 TV.none.c2], .int .i64 er])) (((W.setCell ⟨w.heap.size + 1, 0, none⟩ (.slice none 0 0)).setCell ⟨w.heap.size + 1, 1, none⟩ (.slice none 0 0)).setCell ⟨w.heap.size + 1, 2, none⟩ (.slice none 0 0)) := fun W er hv hb hres =>
    ⟨put3_var TV.none hv, TV.none, Tab.none, er, rfl, TabAt.none _, hres, hb.trans ((put3_only (g := w.heap.size + 1) _ _ _).below15 (Nat.le_succ _) hb.size)⟩
  go_enter Try.func18, Try.ntmps18
  refine pcSeq (fun Q0 n0 r0 _ => jx_p0 ?_)
  intros
  refine n0 _ _ (pcSeq (fun Q1 n1 r1 _ => jx_p1 hg0 (h.below hb0) ?_))
  intro er w1
  intros
  rename_i her hb1'
  have hbw := bthen hb0 hb1'
  have hr1 := hr0.below hb1'
  refine n1 _ _ (pcSeq (fun Q2 n2 r2 _ => jx_p2 hr1 ?_ ?_))
  · intros
    rename_i he0
    have hfo : FewL l ∧ JoinOk ts := by
      rcases her with ⟨_, q⟩ | ⟨_, _, q⟩ | ⟨q1, q2, _⟩
      · omega
      · omega
      · exact ⟨q1, q2⟩
    obtain ⟨hfew, hok⟩ := hfo
    have hg1 := bkeep hb1' hg0 rfl
    obtain ⟨b, off, v, rfl, ⟨y0, -, -⟩, ht⟩ := (h.below hbw).at (i := 0) (Nat.pos_of_ne_zero hfew.1)
    rw [Nat.zero_mul, Nat.add_zero] at y0
    have h0 := (hok 0 (by have := hfew.1; omega)).1
    have hi0 := ht.ids.hlen
    have hf0 := h0.ids.few
    refine n2 _ _ (pcSeq (fun Q3 n3 r3 _ => jx_p4 hg1 y0 (Nat.pos_of_ne_zero hfew.1) ht.ids (by omega) ?_))
    intro s q0 m0 j0 X
    intros
    rename_i k1 k2 k3 k4 k5
    have hbX := bthen hbw k5
    have hrX := hr1.below k5
    have hsw : w.heap.size ≤ s := Nat.le_trans hbw.size k4
    have hRs : w.heap.size + 1 ≠ s := by have := hr1.lt; omega
    have hJ : JoAt X (w.heap.size + 1) s q0 m0 j0 ⟨q0, m0, j0, none, 0, 0, none, 0, 0⟩ [] [] X := ⟨hrX, k1, ⟨rfl, rfl, rfl⟩, IOwn.nil _ _, LHd.nil _ _, Only.refl _ _, k1.lt, hRs⟩
    have hw : ∀ W', Only (fun b => b = s) X W' → Below w.heap.size w W' := fun W' o => hbX.trans (o.below15 hsw hbX.size)
    refine n3 _ _ (pcSeq (fun Q4 n4 r4 _ => jx_l0 (bkeep k5 hg1 rfl) h hfew.2 hw hJ hok ?_))
    intro u wx
    intros
    rename_i hJ2
    refine n4 _ _ (jx_p15 hJ2.r hJ2.var ?_)
    intros
    have hbx := hw _ hJ2.only
    have ho := put3_only (W := wx) (g := w.heap.size + 1) (.slice u.p0 u.l0 u.c0) (.slice u.p1 u.l1 u.c1) (.slice u.p2 u.l2 u.c2)
    have hvR := put3_var u hJ2.r
    have hd : ∀ x, x ∈ ts.flatMap (·.bins) → -9223372036854775808 ≤ x ∧ x < 9223372036854775808 := fun x hx => by
      obtain ⟨t, htm, hxt⟩ := List.mem_flatMap.1 hx
      obtain ⟨i, hi, e⟩ := List.mem_iff_getElem.1 htm
      have e2 : ts.getD i Tab.none = t := by simp [List.getD, List.getElem?_eq_getElem hi, e]
      have ht' := (hok i hi).1
      rw [e2] at ht'
      obtain ⟨j, hj, ej⟩ := List.mem_iff_getElem.1 hxt
      have hc := ht'.col j (by rw [← ht'.len]; exact hj)
      have e3 : t.bins.getD j 0 = x := by simp [List.getD, List.getElem?_eq_getElem hj, ej]
      have h1 := hc.lo
      have h2 := hc.hi
      rw [e3] at h1 h2
      omega
    refine jx_ret hvR ⟨u, joinT ts, 0, rfl, ⟨?_, ?_, ?_⟩, .inr ⟨by rw [hlen]; exact hfew, .inr ⟨hok, rfl, rfl⟩⟩, hbx.trans (ho.below15 (Nat.le_succ _) hbx.size)⟩
    · have hids := lsts_only15 k2 hJ2.only (fun ad e => k3 ad e)
      obtain ⟨e1, e2, e3⟩ := hJ2.u0
      rw [← e1, ← e2, ← e3] at hids
      exact lsts_var hids hJ2.r ho
    · exact lsts_var (IOwn.lsts15 hJ2.bins hd) hJ2.r ho
    · exact hJ2.cols.rowVar hJ2.r ho
  · intros
    rename_i hne
    obtain ⟨z1, z2⟩ := hNone w1 er hr1 hbw (by
      unfold ResJoin15
      rw [hlen]
      rcases her with ⟨q1, q2⟩ | ⟨q1, q2, q3⟩ | ⟨_, _, q⟩
      · exact .inl ⟨q1, q2, rfl⟩
      · exact .inr ⟨q1, .inl ⟨q2, q3, rfl⟩⟩
      · exact absurd q hne)
    exact r2 _ _ (jx_ret (u := TV.none) z1 z2)
end Go.Proofs.Ytaiikhbfnfcalaa
