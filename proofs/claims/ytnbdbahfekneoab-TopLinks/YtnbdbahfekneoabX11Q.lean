/-
  The program's end of a link: what it is behind a call; the contract of Send.
  The program's end of a link: contracts of Next, confirm, hold, get.
  The program's end of a link: contracts of confirm and hold.
  The program's end of a link: the contract of get.
-/
import Derived.Test.YtnbdbahfekneoabX11P
import Derived.Test.YtnbdbahfekneoabX9P
import Derived.Deep.RegionLaw
import Derived.Deep.RegionWith
namespace Go.Proofs.Ytnbdbahfekneoab
open Go.RowKit

section
variable {w w5 : World} {g : Nat} {st st' : LS} {v1 v1' : Value} {bm : Nat} {v6 v6' : Value} {T C : Nat → Prop}
/-- What the end is, behind a call that turned its own blocks alone. -/
theorem PEndV.made (h : PEndV w g st v1 bm v6 T) (o : Only T w w5) (hh : w5.heap[g]? = some (.cells (pcells st' v1' bm v6') 46 (0, 0)))
    (hv1 : v1'.ownBlock = v1.ownBlock ∨ ∀ b, v1'.ownBlock = some b → w.heap.size ≤ b) (hv6 : v6'.ownBlock = v6.ownBlock ∨ ∀ b, v6'.ownBlock = some b → w.heap.size ≤ b) (hne : v1'.ownBlock = v1.ownBlock ∨ v6'.ownBlock = v6.ownBlock)
    (hq : RowO w5 v1' (st'.took.drop st'.sure)) (hc : RowO w5 v6' (st'.all.drop st'.told)) (hm : HeldM w5 bm st'.hold) (hf : st'.Loose) (hw : st'.took.length ≤ 1073741824 ∧ st'.all.length ≤ 1073741824) (hs : ∀ L, L ∈ st'.took → L.length ≤ 1048576) :
    ∃ T', PEndV w5 g st' v1' bm v6' T' ∧ Only T w w5 ∧ ∀ b, T' b → T b ∨ w.heap.size ≤ b := by
  have hold := h.old
  have tg : T g := (h.foot g).2 (.inl rfl)
  have tm : T bm := (h.foot bm).2 (.inr (.inl rfl))
  have t1 : ∀ b, v1.ownBlock = some b → T b := fun b e => (h.foot b).2 (.inr (.inr (.inl e)))
  have t6 : ∀ b, v6.ownBlock = some b → T b := fun b e => (h.foot b).2 (.inr (.inr (.inr e)))
  have far : ∀ {u : Value} {b : Nat}, (∀ b, u.ownBlock = some b → w.heap.size ≤ b) → T b → u.ownBlock ≠ some b := fun k e q => by have := k _ q; have := hold _ e; omega
  refine ⟨fun b => b = g ∨ b = bm ∨ v1'.ownBlock = some b ∨ v6'.ownBlock = some b, ⟨hh, fun b => Iff.rfl, ⟨h.apart.1, ⟨?_, ?_⟩, ⟨?_, ?_⟩, fun b e => ?_⟩, hq, hc, hm, hf, hw, hs⟩, o, fun b e => ?_⟩
  · rcases hv1 with k | k
    · rw [k]; exact h.apart.2.1.1
    · exact far k tg
  · rcases hv1 with k | k
    · rw [k]; exact h.apart.2.1.2
    · exact far k tm
  · rcases hv6 with k | k
    · rw [k]; exact h.apart.2.2.1.1
    · exact far k tg
  · rcases hv6 with k | k
    · rw [k]; exact h.apart.2.2.1.2
    · exact far k tm
  · rcases hne with k | k
    · rw [k] at e
      rcases hv6 with q | q
      · rw [q]; exact h.apart.2.2.2 b e
      · exact far q (t1 b e)
    · rw [k]
      intro q
      rcases hv1 with k1 | k1
      · exact h.apart.2.2.2 b (k1.symm.trans e) q
      · exact far k1 (t6 b q) e
  · rcases e with e | e | e | e
    · exact .inl (by rw [e]; exact tg)
    · exact .inl (by rw [e]; exact tm)
    · rcases hv1 with k | k
      · exact .inl (t1 b (k.symm.trans e))
      · exact .inr (k b e)
    · rcases hv6 with k | k
      · exact .inl (t6 b (k.symm.trans e))
      · exact .inr (k b e)
/-- Blocks of the end's own alone have turned: no bytes. -/
theorem PEndV.own_notB (h : PEndV w g st v1 bm v6 T) (hC : ∀ b, C b → T b) : ∀ b, C b → ¬ IsB w b := fun b e => h.notB b (hC b e)
/-- The row of those that are not sure is another one. -/
theorem PEndV.newQueue {w3 : World} (h : PEndV w g st v1 bm v6 T) (o : Only (fun b => v1.ownBlock = some b) w w3) (hq : RowO w3 v1' (st'.took.drop st'.sure)) (hv : v1'.ownBlock = v1.ownBlock ∨ ∀ b, v1'.ownBlock = some b → w.heap.size ≤ b) (o2 : Only (fun b => b = g) w3 w5)
    (hh : w5.heap[g]? = some (.cells (pcells st' v1' bm v6) 46 (0, 0))) (e4 : st'.all.drop st'.told = st.all.drop st.told) (e6 : st'.hold = st.hold) (hf : st'.Loose) (hw : st'.took.length ≤ 1073741824 ∧ st'.all.length ≤ 1073741824) (hs : ∀ L, L ∈ st'.took → L.length ≤ 1048576) :
    ∃ T', PEndV w5 g st' v1' bm v6 T' ∧ Only T w w5 ∧ ∀ b, T' b → T b ∨ w.heap.size ≤ b := by
  have hC : ∀ b, (b = g ∨ v1.ownBlock = some b) → T b := fun b e => by
    rcases e with e | e
    · exact (h.foot b).2 (.inl e)
    · exact (h.foot b).2 (.inr (.inr (.inl e)))
  have oo : Only (fun b => b = g ∨ v1.ownBlock = some b) w w5 := (o.wide (fun b e => .inr e)).trans (o2.wide (fun b e => .inl e) : Only (fun b => b = g ∨ v1.ownBlock = some b) w3 w5) (fun q e => .inl e)
  have hb := h.own_notB hC
  have hg3 : w3.heap[g]? = some (.cells (pcells st v1 bm v6) 46 (0, 0)) := (o.block g h.lt h.apart.2.1.1).trans h.heap
  refine h.made (oo.wide hC) hh hv (.inl rfl) (.inr rfl) ?_ ?_ ?_ hf hw hs
  · refine hq.only o2 (fun b e q => ?_) (fun b e => by rw [e]; exact IsB.not hg3 (by decide))
    subst q
    rcases hv with k | k
    · exact h.apart.2.1.1 (k.symm.trans e)
    · have := k b e; have := h.lt; omega
  · rw [e4]
    refine h.come.only oo (fun b e q => ?_) hb
    rcases q with q | q
    · exact h.apart.2.2.1.1 (by rw [e, q])
    · exact h.apart.2.2.2 b q e
  · rw [e6]
    exact h.held.only oo (fun q => by rcases q with q | q; exact h.apart.1 q; exact h.apart.2.1.2 q) hb
/-- The row of those that are to be told is another one. -/
theorem PEndV.newCome {w3 : World} (h : PEndV w g st v1 bm v6 T) (o : Only (fun b => v6.ownBlock = some b) w w3) (hq : RowO w3 v6' (st'.all.drop st'.told)) (hv : v6'.ownBlock = v6.ownBlock ∨ ∀ b, v6'.ownBlock = some b → w.heap.size ≤ b) (o2 : Only (fun b => b = g) w3 w5)
    (hh : w5.heap[g]? = some (.cells (pcells st' v1 bm v6') 46 (0, 0))) (e1 : st'.took.drop st'.sure = st.took.drop st.sure) (e6 : st'.hold = st.hold) (hf : st'.Loose) (hw : st'.took.length ≤ 1073741824 ∧ st'.all.length ≤ 1073741824) (hs : ∀ L, L ∈ st'.took → L.length ≤ 1048576) :
    ∃ T', PEndV w5 g st' v1 bm v6' T' ∧ Only T w w5 ∧ ∀ b, T' b → T b ∨ w.heap.size ≤ b := by
  have hC : ∀ b, (b = g ∨ v6.ownBlock = some b) → T b := fun b e => by
    rcases e with e | e
    · exact (h.foot b).2 (.inl e)
    · exact (h.foot b).2 (.inr (.inr (.inr e)))
  have oo : Only (fun b => b = g ∨ v6.ownBlock = some b) w w5 := (o.wide (fun b e => .inr e)).trans (o2.wide (fun b e => .inl e) : Only (fun b => b = g ∨ v6.ownBlock = some b) w3 w5) (fun q e => .inl e)
  have hb := h.own_notB hC
  have hg3 : w3.heap[g]? = some (.cells (pcells st v1 bm v6) 46 (0, 0)) := (o.block g h.lt h.apart.2.2.1.1).trans h.heap
  refine h.made (oo.wide hC) hh (.inl rfl) hv (.inl rfl) ?_ ?_ ?_ hf hw hs
  · rw [e1]
    refine h.queue.only oo (fun b e q => ?_) hb
    rcases q with q | q
    · exact h.apart.2.1.1 (by rw [e, q])
    · exact h.apart.2.2.2 b e q
  · refine hq.only o2 (fun b e q => ?_) (fun b e => by rw [e]; exact IsB.not hg3 (by decide))
    subst q
    rcases hv with k | k
    · exact h.apart.2.2.1.1 (k.symm.trans e)
    · have := k b e; have := h.lt; omega
  · rw [e6]
    exact h.held.only oo (fun q => by rcases q with q | q; exact h.apart.1 q; exact h.apart.2.2.1.2 q) hb
/-- What is held is another map. -/
theorem PEndV.newHeld (h : PEndV w g st v1 bm v6 T) (o : Only (fun b => b = bm) w w5) (hm : HeldM w5 bm st'.hold) (hcells : pcells st' v1 bm v6 = pcells st v1 bm v6) (e1 : st'.took.drop st'.sure = st.took.drop st.sure) (e4 : st'.all.drop st'.told = st.all.drop st.told) (hf : st'.Loose) (hw : st'.took.length ≤ 1073741824 ∧ st'.all.length ≤ 1073741824) (hs : ∀ L, L ∈ st'.took → L.length ≤ 1048576) :
    PEndV w5 g st' v1 bm v6 T ∧ Only T w w5 := by
  have hC : ∀ b, b = bm → T b := fun b e => (h.foot b).2 (.inr (.inl e))
  have hb := h.own_notB hC
  refine ⟨⟨?_, h.foot, h.apart, ?_, ?_, hm, hf, hw, hs⟩, o.wide hC⟩
  · rw [hcells]
    exact (o.block g h.lt (fun e => h.apart.1 e.symm)).trans h.heap
  · rw [e1]
    exact h.queue.only o (fun b e q => h.apart.2.1.2 (by rw [e, q])) hb
  · rw [e4]
    exact h.come.only o (fun b e q => h.apart.2.2.1.2 (by rw [e, q])) hb
end

set_option maxRecDepth 20000 in
set_option maxHeartbeats 6400000 in
theorem p11send_any (g : Nat) (st : LS) (T : Nat → Prop) (a : Option Addr) (la ca : Nat) (body : List Int) (w : World) (h : PEnd w g st T) (hb : Byts w a la ca body) (hlen : la ≤ 140737488355300) :
    Calls Try.prog 6 #[.pointer (some ⟨g, 0, none⟩), .slice a la ca] w fun e w' => e = .returned (.int .i64 (st.sendE body)) ∧ EndT11 PEnd w g (st.send body) T w' := by
  obtain ⟨hF, v1, bm, v6, h⟩ := h
  have HF0 : Hid st.Fine := hF
  have hcap := hb.hcap
  have hmax := hb.hmax
  unfold maxLen at hmax
  have HL : Hid (body.length = la) := hb.hlen
  have HD : Hid (∀ j, EndT11 PEnd w g st T (w.drewN j)) := fun j => EndT11.none ⟨hF, v1, bm, v6, (h.draw j).1⟩ (h.draw j).2
  have HM := (show Hid _ from p11made_any h)
  have HT := (show Hid _ from p11taken_any h)
  have HH : Hid (PEndV w g st v1 bm v6 T) := h
  obtain ⟨E, hE⟩ : ∃ E, E = st.sendE body := ⟨_, rfl⟩
  obtain ⟨X, hX⟩ : ∃ X, X = st.send body := ⟨_, rfl⟩
  rw [← hE, ← hX]
  have HEX : Hid (E = st.sendE body ∧ X = st.send body) := ⟨hE, hX⟩
  clear hE hX hF
  have NOT : ∀ {z : Int}, st.sendE body = z → z ≠ 0 → Hid (E = z ∧ X = st) := fun h1 h2 => ⟨HEX.out.1.trans h1, by rw [HEX.out.2]; unfold LS.send; rw [if_neg (by rw [h1]; exact h2)]⟩
  obtain ⟨n, hn⟩ : ∃ n, n = st.took.length := ⟨_, rfl⟩
  have HN : Hid (n = st.took.length) := hn
  rw [← hn] at HT
  by_cases l1 : 1048576 < la
  · have HR := NOT (z := 1) (by unfold LS.sendE; rw [if_pos (.inl (by rw [HL.out]; exact l1))]) (by decide)
    have l1d : decide ((1048576 : Int) < (la : Int)) = true := decide_eq_true (by omega)
    clear h hb NOT HT
    go_enter Try.func6, Try.ntmps6
    go_wp2_with fail
    refine Calls.mono HM.out ?_
    rintro e w1 ⟨rfl, rfl⟩
    go_wp2
    go_ret
    exact ⟨ret_int HR.out.1.symm, by rw [HR.out.2]; exact HD.out 0⟩
  have l1d : decide ((1048576 : Int) < (la : Int)) = false := decide_eq_false (by omega)
  by_cases l2 : 1073741824 ≤ n
  · have HR := NOT (z := 1) (by unfold LS.sendE; rw [if_pos (.inr (by rw [← HN.out]; exact l2))]) (by decide)
    have l2d : decide ((1073741824 : Int) ≤ (n : Int)) = true := decide_eq_true (by omega)
    clear h hb NOT hn
    go_enter Try.func6, Try.ntmps6
    go_wp2_with fail
    refine Calls.mono HM.out ?_
    rintro e w1 ⟨rfl, rfl⟩
    go_wp2_with fail
    refine Calls.mono HT.out ?_
    rintro e w1 ⟨rfl, j, rfl⟩
    go_wp2
    go_ret
    exact ⟨ret_int HR.out.1.symm, by rw [HR.out.2]; exact HD.out _⟩
  have l2d : decide ((1073741824 : Int) ≤ (n : Int)) = false := decide_eq_false (by omega)
  have c1 : w.cell? ⟨g, 1, none⟩ = some v1 := h.cell 1
  obtain ⟨a1, k1, e1, hk1, hk2⟩ := h.queue.slice
  have s1 := h.fine.sure
  have s2 := h.fine.sent
  unfold maxLen at hk2
  obtain ⟨q, hq⟩ : ∃ q, q = (st.took.drop st.sure).length := ⟨_, rfl⟩
  have hqn : q = st.took.length - st.sure := by rw [hq, List.length_drop]
  have HQ : Hid (q = (st.took.drop st.sure).length ∧ q = n - st.sure ∧ st.sure ≤ n) := ⟨hq, by rw [hn]; exact hqn, by omega⟩
  rw [← hq] at e1
  rw [e1] at c1
  by_cases l3 : 64 ≤ q
  · have HR := NOT (z := 15) (by unfold LS.sendE; rw [if_neg (by rw [HL.out, ← HN.out]; omega), if_pos (by rw [← HN.out]; have := HQ.out; omega)]) (by decide)
    have l3d : decide ((64 : Int) ≤ (q : Int)) = true := decide_eq_true (by omega)
    clear h hb NOT hn hq hqn s1 s2 e1 hk1 hk2
    go_enter Try.func6, Try.ntmps6
    go_wp2_with fail
    refine Calls.mono HM.out ?_
    rintro e w1 ⟨rfl, rfl⟩
    go_wp2_with fail
    refine Calls.mono HT.out ?_
    rintro e w1 ⟨rfl, j, rfl⟩
    go_wp2
    go_ret
    exact ⟨ret_int HR.out.1.symm, by rw [HR.out.2]; exact HD.out _⟩
  have l3d : decide ((64 : Int) ≤ (q : Int)) = false := decide_eq_false (by omega)
  have HR : Hid (E = 0 ∧ X = { st with took := st.took ++ [body] }) := by
    have e0 : st.sendE body = 0 := by unfold LS.sendE; rw [if_neg (by rw [HL.out, ← HN.out]; omega), if_neg (by rw [← HN.out]; have := HQ.out; omega)]
    exact ⟨HEX.out.1.trans e0, by rw [HEX.out.2]; unfold LS.send; rw [if_pos e0]⟩
  clear NOT HEX hn hq hqn s1 s2 hk1 h
  go_enter Try.func6, Try.ntmps6
  go_wp2_with fail
  refine Calls.mono HM.out ?_
  rintro e w1 ⟨rfl, rfl⟩
  go_wp2_with fail
  refine Calls.mono HT.out ?_
  rintro e w1 ⟨rfl, j, rfl⟩
  go_wp2_with fail
  generalize hwz : World.drewN _ j = wz
  have HZ : Hid (PEndV wz g st v1 bm v6 T ∧ Only T w1 wz) := by subst hwz; exact HH.out.draw j
  have hbz : Byts wz a la ca body := by subst hwz; exact ⟨hb.hlen, hb.hcap, hb.hmax, hb.cells, hb.word⟩
  clear hwz HH HM HT HD hb c1
  have z1 : wz.cell? ⟨g, 1, none⟩ = some (.slice a1 q k1) := by rw [← e1]; exact HZ.out.1.cell 1
  have hgz := HZ.out.1.lt
  have hgne : wz.heap.size ≠ g := by omega
  have HB : Hid (Byts wz a la ca body) := hbz
  have HV : Hid (RowO wz (.slice a1 q k1) (st.took.drop st.sure)) := by show RowO _ _ _; rw [← e1]; exact HZ.out.1.queue
  clear hbz
  have HCl : Hid (∀ wx : World, Below wz.heap.size wz wx → Calls Try.prog 21 #[.slice a la ca] wx fun e w' => ∃ pa pn pc, e = .returned (.slice pa pn pc) ∧ Hid (BytG w' pa pn pc body) ∧ Hid (Below wz.heap.size wz w') ∧ w'.cell? ⟨g, 1, none⟩ = some (.slice a1 q k1) ∧ ∀ o : Obj, (w'.alloc o).cell? ⟨g, 1, none⟩ = some (.slice a1 q k1)) := fun wx hbx => by
    refine (clone9_any a la ca body wx (HB.out.below hbx) hlen).mono ?_
    rintro e w' ⟨pa, pn, pc, rfl, ⟨x1, x2, x3⟩, x4⟩
    have hb2 := bthen hbx x4
    have z2 : w'.cell? ⟨g, 1, none⟩ = some (.slice a1 q k1) := bkeep hb2 z1 rfl
    exact ⟨pa, pn, pc, rfl, ⟨x1, x2, fun ad e h0 => (x3 ad e h0).2⟩, hb2, z2, fun o => by rw [World.cell?_alloc_lt _ _ _ (World.block_lt_of_cell? _ _ z2)]; exact z2⟩
  have HC : Hid (∀ (w2 w3 : World) (o : Obj), Below wz.heap.size wz w2 → (w2.alloc o).grownBy w3 (Value.slice a1 q k1).ownBlock → w3.heap[g]? = some (.cells (pcells st v1 bm v6) 46 (0, 0)) ∧ w3.cell? ⟨g, 1, none⟩ = some (.slice a1 q k1) ∧ w3.frozen? ⟨g, 1, none⟩ = false) := fun w2 w3 o hb2 hg3 => by
    have hs2 := hb2.size
    have q3 : w3.heap[g]? = some (.cells (pcells st v1 bm v6) 46 (0, 0)) := (hg3.block g (by simp; omega) (fun e => HZ.out.1.apart.2.1.1 (by rw [e1]; exact e.symm))).trans ((heap_alloc_old w2 _ (show g < w2.heap.size by omega)).trans ((hb2.block g hgz).trans HZ.out.1.heap))
    refine ⟨q3, ?_, frozen_of_row w3 g 1 _ _ q3⟩
    rw [cell_of_row w3 g 1 _ _ _ q3, ← e1]
    rfl
  go_region_law (first
    | (refine step_appO _ (by rfl) _ _ 36 (by rfl) Try.underlying36 (.slice a1 q k1) (st.took.drop st.sure) (by rfl) (by exact (HV.out.below hb2.out).below ⟨rfl, rfl, rfl, by simp, fun k hk => Below.heap_alloc _ _ _ hk⟩) w2.heap.size pa pn pc body (by rfl) (by simp) (by exact hP.out.below ⟨rfl, rfl, rfl, by simp, fun k hk => Below.heap_alloc _ _ _ hk⟩) (by have := HQ.out; omega) ?_; rintro v3 w3 hown3 hg3 hv3; obtain ⟨b3, n3, k3, rfl⟩ := hown3.sl; have z3 := (HC.out w2 w3 _ hb2.out hg3).2.1; have f3 := (HC.out w2 w3 _ hb2.out hg3).2.2)
    | (go_simp; go_at_call 21; with_reducible refine Calls.mono (HCl.out _ ?_) ?_; (focus (exact ⟨rfl, rfl, rfl, Nat.le_refl _, fun _ _ => rfl⟩)); rintro e w2 ⟨pa, pn, pc, rfl, hP, hb2, z2, z2a⟩))
  all_goals
    have HFin : Hid (EndT11 PEnd w1 g { st with took := st.took ++ [body] } T (w3.setCell ⟨g, 1, none⟩ (.slice b3 n3 k3))) := by
      have hf := HF0.out
      have s2 := hf.sent
      have s1 := hf.sure
      have hF' : LS.Fine { st with took := st.took ++ [body] } := ⟨hf.sure, by simp; omega, hf.win, hf.w16, hf.hold, hf.told⟩
      have hdr : (st.took ++ [body]).drop st.sure = st.took.drop st.sure ++ [body] := List.drop_append_of_le_length (by omega)
      have hwa := bthen hb2.out (balloc w2 (.cells #[.slice pa pn pc] 32))
      have q3 := (HC.out w2 w3 _ hb2.out hg3).1
      obtain ⟨T', m1, m2, m3⟩ := HZ.out.1.newQueue (w3 := w3) (w5 := w3.setCell ⟨g, 1, none⟩ (.slice b3 n3 k3)) (st' := { st with took := st.took ++ [body] }) (v1' := .slice b3 n3 k3) ((Only.of_below hwa).trans (Only.of_grown hg3 (fun b e => by rw [e1]; exact e)) (fun b e => .inl e)) (by show RowO _ _ ((st.took ++ [body]).drop st.sure); rw [hdr]; exact hown3) (by
          rcases hv3 with k | k
          · exact .inl (by rw [e1]; exact k)
          · refine .inr (fun b e => ?_)
            have := Option.some.inj (k.symm.trans e)
            have := hwa.size
            omega) (Only.of_grown (grown_set w3 g 1 _) (fun b e => by cases e; rfl)) (by rw [heap_setCell_same w3 g 1 _ _ _ q3]; rfl) rfl rfl hF'.loose ⟨by simp; have := HN.out; omega, HZ.out.1.few.2⟩ (fun L hL => by
          rcases List.mem_append.1 hL with k | k
          · exact HZ.out.1.short L k
          · simp at k
            rw [k, HL.out]
            omega)
      exact EndT11.from HZ.out.2 ⟨T', ⟨hF', _, bm, v6, m1⟩, m2, m3⟩
    clear HZ HV HCl HC hown3 hg3 hv3 hP hb2
    go_wp2
    go_ret
    exact ⟨ret_int HR.out.1.symm, by rw [HR.out.2]; exact HFin.out⟩
end Go.Proofs.Ytnbdbahfekneoab

namespace Go.Proofs.Ytnbdbahfekneoab
open Go.RowKit

/-- The first row is struck: it is nil, and the row begins behind it. -/
theorem RowO.tail {w : World} {b o n cap : Nat} {Ls : List (List Int)} (h : RowO w (.slice (some ⟨b, o, none⟩) n cap) Ls) (h0 : 0 < n) {o' : Nat} (ho : o' = o + 1 ∨ (cap = 1 ∧ o' = o)) : RowO (w.setCell ⟨b, o, none⟩ (.slice none 0 0)) (.slice (some ⟨b, o', none⟩) (n - 1) (cap - 1)) (Ls.drop 1) := by
  rcases h with ⟨e, -⟩ | ⟨b', o1, cap', cur, e, hg, h1, h2, h3, h4⟩
  · simp at e
  · injection e with e1 e2 e3
    cases e1
    subst e2
    subst e3
    have hO : Only (fun q => q = b) w (w.setCell ⟨b, o, none⟩ (.slice none 0 0)) := Only.of_grown (grown_set w b o _) (fun q e => by cases e; rfl)
    have hnb : ∀ q, q = b → ¬ IsB w q := fun q e => by rw [e]; exact IsB.not hg (by decide)
    refine .inr ⟨b, o', cap - 1, _, by simp, heap_setCell_same w b o cur _ (.slice none 0 0) hg, by simp; omega, by omega, by simp; omega, fun i hi => ?_⟩
    have hi' : 1 + i < Ls.length := by simp at hi; omega
    obtain ⟨p, m, c, e, hb⟩ := h4 (1 + i) hi'
    refine ⟨p, m, c, ?_, ?_⟩
    · have ho1 : o' = o + 1 := by
        rcases ho with k | ⟨k, _⟩
        · exact k
        · omega
      rw [Array.getElem?_setIfInBounds, if_neg (by omega), ho1, show o + 1 + i = o + (1 + i) by omega]
      exact e
    · have : (Ls.drop 1).getD i [] = Ls.getD (1 + i) [] := by unfold List.getD; rw [List.getElem?_drop]
      rw [this]
      exact hb.only hO hnb

set_option maxRecDepth 20000 in
set_option maxHeartbeats 3200000 in
theorem p11next_any (g : Nat) (st : LS) (T : Nat → Prop) (w : World) (h : PEnd w g st T) :
    Calls Try.prog 10 #[.pointer (some ⟨g, 0, none⟩)] w fun e w' => NextT11 PEnd w g st T e w' := by
  obtain ⟨hF, v1, bm, v6, h⟩ := h
  have HF0 : Hid st.Fine := hF
  have HM := (show Hid _ from p11made_any h)
  have HH : Hid (PEndV w g st v1 bm v6 T) := h
  have c6 : w.cell? ⟨g, 6, none⟩ = some v6 := h.cell 6
  obtain ⟨a6, k6, e6, hk1, hk2⟩ := h.come.slice
  obtain ⟨n, hn⟩ : ∃ n, n = (st.all.drop st.told).length := ⟨_, rfl⟩
  have hnl : n = st.all.length - st.told := by rw [hn, List.length_drop]
  rw [← hn] at e6 hk1
  rw [e6] at c6
  unfold maxLen at hk2
  by_cases l1 : n = 0
  · have HB : Hid (NextT11 PEnd w g st T (.returned (.tuple #[.slice none 0 0, .bool false])) w) := .inl ⟨by omega, rfl, EndT11.none ⟨hF, v1, bm, v6, h⟩ (Only.refl _ _)⟩
    subst l1
    clear h HH hn hnl hF
    go_enter Try.func10, Try.ntmps10
    go_wp2_with fail
    refine Calls.mono HM.out ?_
    rintro e w1 ⟨rfl, rfl⟩
    go_wp2
    go_ret2
    exact HB.out
  have l1d : ((n : Int) == 0) = false := by simp [l1]
  obtain ⟨b, o, cap, p, m, c, e6', q1, q2, q3⟩ := h.come.at (i := 0) (by rw [← hn]; omega)
  obtain ⟨rfl, rfl⟩ : a6 = some ⟨b, o, none⟩ ∧ k6 = cap := by
    rw [e6, ← hn] at e6'
    injection e6' with y1 y2 y3
    exact ⟨y1, y3⟩
  rw [Nat.add_zero] at q1 q2
  have hbg : b ≠ g := fun e => h.apart.2.2.1.1 (by rw [e6, e]; rfl)
  have hn1 : (1 : Int) ≤ (n : Int) := by omega
  have hk1i : (1 : Int) ≤ (k6 : Int) := by omega
  have HG : Hid (NextT11 PEnd w g st T (.returned (.tuple #[.slice p m c, .bool true])) (((w.setCell ⟨b, o, none⟩ (.slice none 0 0)).setCell ⟨g, 6, none⟩ (.slice (if k6 = 1 then some ⟨b, o, none⟩ else some ⟨b, o + 1, none⟩) (n - 1) (k6 - 1))))) := by
    have hq := h.come
    rw [e6] at hq
    have hr : ∃ o', (if k6 = 1 then some (⟨b, o, none⟩ : Addr) else some ⟨b, o + 1, none⟩) = some ⟨b, o', none⟩ ∧ (o' = o + 1 ∨ (k6 = 1 ∧ o' = o)) := by
      by_cases k : k6 = 1
      · exact ⟨o, by rw [if_pos k], .inr ⟨k, rfl⟩⟩
      · exact ⟨o + 1, by rw [if_neg k], .inl rfl⟩
    obtain ⟨o', ho1, ho2⟩ := hr
    rw [ho1]
    have ht := RowO.tail hq (by omega) ho2
    rw [List.drop_drop] at ht
    have hO : Only (fun q => v6.ownBlock = some q) w (w.setCell ⟨b, o, none⟩ (.slice none 0 0)) := Only.of_grown (grown_set w b o _) (fun q e => by cases e; rw [e6]; rfl)
    have hg1 : (w.setCell ⟨b, o, none⟩ (.slice none 0 0)).heap[g]? = some (.cells (pcells st v1 bm v6) 46 (0, 0)) := (hO.block g h.lt h.apart.2.2.1.1).trans h.heap
    have hF' : LS.Fine { st with told := st.told + 1 } := ⟨hF.sure, hF.sent, hF.win, hF.w16, hF.hold, by show st.told + 1 ≤ st.all.length; omega⟩
    obtain ⟨T', m1, m2, m3⟩ := h.newCome (w3 := w.setCell ⟨b, o, none⟩ (.slice none 0 0)) (w5 := (w.setCell ⟨b, o, none⟩ (.slice none 0 0)).setCell ⟨g, 6, none⟩ (.slice (some ⟨b, o', none⟩) (n - 1) (k6 - 1))) (st' := { st with told := st.told + 1 }) (v6' := .slice (some ⟨b, o', none⟩) (n - 1) (k6 - 1)) hO ht (.inl (by rw [e6]; rfl)) (Only.of_grown (grown_set _ g 6 _) (fun b e => by cases e; rfl)) (by rw [heap_setCell_same _ g 6 _ _ _ hg1]; rfl) rfl rfl hF'.loose h.few h.short
    refine .inr ⟨by omega, p, m, c, T', rfl, ⟨hF', v1, bm, _, m1⟩, m2, m3, ?_⟩
    have e0 : (st.all.drop st.told).getD 0 [] = st.all.getD st.told [] := by unfold List.getD; rw [List.getElem?_drop]; rfl
    rw [e0] at q3
    exact q3.only m2 h.notB
  have g6 : (w.setCell ⟨b, o, none⟩ (.slice none 0 0)).cell? ⟨g, 6, none⟩ = some (.slice (some ⟨b, o, none⟩) n k6) := by rw [World.cell?_setCell_other _ _ _ _ (by simp)]; exact c6
  have f6 : (w.setCell ⟨b, o, none⟩ (.slice none 0 0)).frozen? ⟨g, 6, none⟩ = false := by rw [World.frozen?_setCell]; exact h.frozen 6
  clear h HH hn hnl hF e6 q3 e6'
  by_cases k : k6 = 1
  · subst k
    obtain rfl : n = 1 := by omega
    rw [if_pos rfl] at HG
    go_enter Try.func10, Try.ntmps10
    go_wp2_with fail
    refine Calls.mono HM.out ?_
    rintro e w1 ⟨rfl, rfl⟩
    go_wp2
    go_ret2
    exact HG.out
  rw [if_neg k] at HG
  go_enter Try.func10, Try.ntmps10
  go_wp2_with fail
  refine Calls.mono HM.out ?_
  rintro e w1 ⟨rfl, rfl⟩
  go_wp2
  go_ret2
  exact HG.out
end Go.Proofs.Ytnbdbahfekneoab

namespace Go.Proofs.Ytnbdbahfekneoab
open Go.RowKit

theorem LS.acked_loose {st : LS} (h : st.Loose) {A : Nat} (hA : A ≤ st.sent) : (st.acked A).Loose := ⟨show max st.sure A ≤ st.sent by have := h.sure; omega, h.sent, show st.sent ≤ max st.sure A + st.win by have := h.win; omega, h.w16, h.told⟩

set_option maxRecDepth 20000 in
set_option maxHeartbeats 3200000 in
theorem p11confirm_any {g A : Nat} {st : LS} {v1 : Value} {bm : Nat} {v6 : Value} {T : Nat → Prop} {w : World} (h : PEndV w g st v1 bm v6 T) (hA : A ≤ st.sent) :
    Calls Try.prog 25 #[.pointer (some ⟨g, 0, none⟩), .int .i64 (A : Int)] w fun e w' => e = .returned (.tuple #[]) ∧ ∃ v1' T', PEndV w' g (st.acked A) v1' bm v6 T' ∧ Only T w w' ∧ ∀ b, T' b → T b ∨ w.heap.size ≤ b := by
  have c2 : w.cell? ⟨g, 2, none⟩ = some (.int .i64 st.sure) := h.cell 2
  have HL := (show Hid _ from LS.acked_loose h.fine hA)
  have s1 := h.fine.sure
  have s2 := h.fine.sent
  have s3 := h.few.1
  obtain ⟨s, hs⟩ : ∃ s, s = st.sure := ⟨_, rfl⟩
  rw [← hs] at c2 s1
  by_cases hS : s < A
  case neg =>
    have hSd : decide (s < A) = false := decide_eq_false hS
    have HB : Hid (st.acked A = st) := by
      show _ = _
      unfold LS.acked
      have h1 : max st.sure A = st.sure := by omega
      rw [h1]
    have HH : Hid (PEndV w g st v1 bm v6 T) := h
    clear h hs
    go_enter Try.func25, Try.ntmps25
    go_wp2
    go_end0
    exact ⟨rfl, v1, T, by rw [HB.out]; exact HH.out, Only.refl _ _, fun b e => .inl e⟩
  have hSd : decide (s < A) = true := decide_eq_true hS
  obtain ⟨k, hk⟩ : ∃ k, k = A - s := ⟨_, rfl⟩
  have hsub : IntKind.i64.wrap ((A : Int) - (s : Int)) = (k : Int) := by simp [IntKind.wrap, IntKind.signed, IntKind.bits]; omega
  have hsub2 : (A : Int) - (s : Int) = (k : Int) := by omega
  have c1 : w.cell? ⟨g, 1, none⟩ = some v1 := h.cell 1
  obtain ⟨a1, n1, k1, e1⟩ := h.queue.sl
  rw [e1] at c1
  have hw : IntKind.i64.wrap (k : Int) = (k : Int) := by simp [IntKind.wrap, IntKind.signed, IntKind.bits]; omega
  have HD : Hid (∀ wx : World, Below w.heap.size w wx → Calls Try.prog 47 #[.slice a1 n1 k1, .int .i64 0, .int .i64 (k : Int)] wx fun e w' => ∃ b2 n2 k2, e = .returned (.slice b2 n2 k2) ∧ (w'.cell? ⟨g, 1, none⟩ = some (.slice a1 n1 k1) ∧ w'.frozen? ⟨g, 1, none⟩ = false ∧ (∃ x, w'.cell? ⟨g, 2, none⟩ = some x) ∧ w'.frozen? ⟨g, 2, none⟩ = false) ∧ (∃ T', PEndV ((w'.setCell ⟨g, 1, none⟩ (.slice b2 n2 k2)).setCell ⟨g, 2, none⟩ (.int .i64 (A : Int))) g (st.acked A) (.slice b2 n2 k2) bm v6 T' ∧ Only T w ((w'.setCell ⟨g, 1, none⟩ (.slice b2 n2 k2)).setCell ⟨g, 2, none⟩ (.int .i64 (A : Int))) ∧ ∀ b, T' b → T b ∨ w.heap.size ≤ b)) := fun wx hbx => by
    have hx := h.below hbx
    have hq := hx.queue
    rw [e1] at hq
    refine (del_any hq (k := k) (by omega) (by rw [List.length_drop]; omega)).mono ?_
    rintro e w' ⟨v', rfl, hr, hgr, hown⟩
    obtain ⟨b2, n2, k2, rfl⟩ := hr.sl
    have ho : Only (fun b => v1.ownBlock = some b) wx w' := Only.of_grown hgr (fun b e => by rw [e1]; exact e)
    have hg' : w'.heap[g]? = some (.cells (pcells st v1 bm v6) 46 (0, 0)) := (ho.block g hx.lt hx.apart.2.1.1).trans hx.heap
    have hmax : max st.sure A = A := by omega
    have hh5 : ((w'.setCell ⟨g, 1, none⟩ (.slice b2 n2 k2)).setCell ⟨g, 2, none⟩ (.int .i64 (A : Int))).heap[g]? = some (.cells (pcells (st.acked A) (.slice b2 n2 k2) bm v6) 46 (0, 0)) := by
      rw [heap_setCell_same _ g 2 _ _ _ (heap_setCell_same w' g 1 _ _ (.slice b2 n2 k2) hg')]
      unfold pcells LS.acked
      simp [hmax]
    have o5 : Only (fun b => b = g) w' ((w'.setCell ⟨g, 1, none⟩ (.slice b2 n2 k2)).setCell ⟨g, 2, none⟩ (.int .i64 (A : Int))) := (Only.of_grown (grown_set w' g 1 _) (fun b e => by cases e; rfl)).trans (Only.of_grown (grown_set _ g 2 _) (fun b e => by cases e; rfl)) (fun b e => .inl e)
    have hdr : (st.took.drop st.sure).drop k = (st.acked A).took.drop (st.acked A).sure := by
      rw [List.drop_drop]
      show _ = st.took.drop (max st.sure A)
      rw [hmax]
      congr 1
      omega
    obtain ⟨T', m1, m2, m3⟩ := hx.newQueue (w3 := w') (st' := st.acked A) (v1' := .slice b2 n2 k2) ho (by rw [← hdr]; exact hr) (.inl (by rw [e1]; exact hown)) o5 hh5 rfl rfl HL.out hx.few hx.short
    have hsz := hbx.size
    refine ⟨b2, n2, k2, rfl, ⟨by rw [cell_of_row w' g 1 _ _ _ hg', ← e1]; rfl, frozen_of_row w' g 1 _ _ hg', ⟨_, by rw [cell_of_row w' g 2 _ _ _ hg']; rfl⟩, frozen_of_row w' g 2 _ _ hg'⟩, T', m1, (Only.of_below hbx).trans m2 (fun b e => .inl e), fun b e => (m3 b e).imp id (fun k => by omega)⟩
  clear h hk HL hs
  go_enter Try.func25, Try.ntmps25
  go_wp2_with fail
  go_region_with (go_at_call 47; with_reducible refine Calls.mono (HD.out _ ?_) ?_; (focus (exact ⟨rfl, rfl, rfl, Nat.le_refl _, fun _ _ => rfl⟩)); rintro e w2 ⟨b2, n2, k2, rfl, ⟨z1, z2, ⟨x3, z3⟩, z4⟩, hfin⟩)
  all_goals
    have y3 : (w2.setCell ⟨g, 1, none⟩ (.slice b2 n2 k2)).cell? ⟨g, 2, none⟩ = some x3 := by rw [World.cell?_setCell_other _ _ _ _ (by simp)]; exact z3
    have y4 : (w2.setCell ⟨g, 1, none⟩ (.slice b2 n2 k2)).frozen? ⟨g, 2, none⟩ = false := by rw [World.frozen?_setCell]; exact z4
    have HFin : Hid (∃ T', PEndV ((w2.setCell ⟨g, 1, none⟩ (.slice b2 n2 k2)).setCell ⟨g, 2, none⟩ (.int .i64 (A : Int))) g (st.acked A) (.slice b2 n2 k2) bm v6 T' ∧ Only T w ((w2.setCell ⟨g, 1, none⟩ (.slice b2 n2 k2)).setCell ⟨g, 2, none⟩ (.int .i64 (A : Int))) ∧ ∀ b, T' b → T b ∨ w.heap.size ≤ b) := hfin
    clear HD hfin
    go_wp2
    go_end0
    obtain ⟨T', m⟩ := HFin.out
    exact ⟨rfl, _, T', m⟩

set_option maxRecDepth 20000 in
set_option maxHeartbeats 3200000 in
theorem p11hold_any {g S : Nat} {st : LS} {v1 : Value} {bm : Nat} {v6 : Value} {T : Nat → Prop} {w : World} {p : Option Addr} {l c : Nat} {body : List Int} (h : PEndV w g st v1 bm v6 T) (hF : st.Fine) (hS : S ≤ 1073741824) (hb : BytG w p l c body) :
    Calls Try.prog 26 #[.pointer (some ⟨g, 0, none⟩), .int .i64 (S : Int), .slice p l c] w fun e w' => e = .returned (.tuple #[]) ∧ PEndV w' g (st.keep S body) v1 bm v6 T ∧ Only T w w' := by
  have c4 : w.cell? ⟨g, 4, none⟩ = some (.int .i64 st.all.length) := h.cell 4
  have c5 : w.cell? ⟨g, 5, none⟩ = some (.map (some bm)) := h.cell 5
  have s4 := h.few.2
  obtain ⟨n, hn⟩ : ∃ n, n = st.all.length := ⟨_, rfl⟩
  rw [← hn] at c4 s4
  have HN : Hid (n = st.all.length) := hn
  have SAME : keepB st S = false → Hid (PEndV w g (st.keep S body) v1 bm v6 T ∧ Only T w w) := fun e => by
    rw [LS.keep_false e]
    exact ⟨h, Only.refl _ _⟩
  by_cases q1 : S < n
  · have q1d : decide (S < n) = true := decide_eq_true q1
    have HB := SAME (by unfold keepB; rw [← hn, decide_eq_false (by omega)]; rfl)
    clear h hn SAME hb
    go_enter Try.func26, Try.ntmps26
    go_wp2
    refine bodyPost_ret (results_none rfl _ _ _) rfl ?_
    exact ⟨rfl, HB.out⟩
  have q1d : decide (S < n) = false := decide_eq_false q1
  have hsum : IntKind.i64.wrap ((n : Int) + 16) = (n : Int) + 16 := by simp [IntKind.wrap, IntKind.signed, IntKind.bits]; omega
  by_cases q2 : n + 16 ≤ S
  · have q2d : decide ((n : Int) + 16 ≤ (S : Int)) = true := decide_eq_true (by omega)
    have HB := SAME (by unfold keepB; rw [← hn, decide_eq_false (show ¬ S < n + 16 by omega), Bool.false_and, Bool.and_false])
    clear h hn SAME hb
    go_enter Try.func26, Try.ntmps26
    go_wp2
    refine bodyPost_ret (results_none rfl _ _ _) rfl ?_
    exact ⟨rfl, HB.out⟩
  have q2d : decide ((n : Int) + 16 ≤ (S : Int)) = false := decide_eq_false (by omega)
  obtain ⟨v, hr, hv⟩ := h.held.look (k := S) (by omega)
  obtain ⟨q, hq⟩ : ∃ q, q = (st.hold S).isSome := ⟨_, rfl⟩
  rw [← hq] at hr
  cases q with
  | true =>
    have hnn : (st.hold S).isNone = false := by
      cases e : st.hold S with
      | none => rw [e] at hq; cases hq
      | some b => rfl
    have HB := SAME (by unfold keepB; rw [hnn, Bool.and_false, Bool.and_false])
    clear h hn SAME hb hv hq hnn
    go_enter Try.func26, Try.ntmps26
    go_wp2
    go_end0
    exact ⟨rfl, HB.out⟩
  | false =>
    have hnone : st.hold S = none := by
      cases e : st.hold S with
      | none => rfl
      | some b => rw [e] at hq; cases hq
    obtain ⟨w', r1, r2, r3⟩ := h.held.put (k := S) (by omega) hnone hF.hold hb
    have hkb : keepB st S = true := by unfold keepB; rw [← hn, decide_eq_true (by omega), decide_eq_true (by omega), hnone]; rfl
    have HB : Hid (PEndV w' g (st.keep S body) v1 bm v6 T ∧ Only T w w') := by
      have hf := h.fine
      have ho : Only (fun b => b = bm) w w' := Only.of_grown r2 (fun b e => by cases e; rfl)
      rw [LS.keep_true hkb]
      exact h.newHeld (st' := { st with hold := fun m => if m = S then some body else st.hold m }) ho r3 rfl rfl rfl ⟨hf.sure, hf.sent, hf.win, hf.w16, hf.told⟩ h.few h.short
    clear h hn SAME hb hv hq r2 r3 hnone hkb
    go_enter Try.func26, Try.ntmps26
    go_wp2
    go_end0
    exact ⟨rfl, HB.out⟩
end Go.Proofs.Ytnbdbahfekneoab

namespace Go.Proofs.Ytnbdbahfekneoab
open Go.RowKit

/-- A call of the builtin delete, as one step of a region that draws its order. -/
theorem step_del (w : World) {ops : Array Oper} {o : Oper} {a : Act} {K : Act → World → Prop} {Q : Exit → Act → World → Prop} {E : Prop} (hgd : o.guard = none) (s x : Operand) (t k : TypeId)
    (ho : o.op = .call { callee := .builtin .delete, args := #[s, x], argTypes := #[t, k] }) (m y : Value) (hs : a.eval s = m) (hx : a.eval x = y) (w' : World) (hr : ∀ ty, (Builtin.delete_ #[t, k] ty #[m, y]).run Try.prog w = .ok (.tuple #[]) w')
    (h : K (a.put o.dst (.tuple #[])) w') : if Region.wanted o (yielded ops a.tmps) = true then Oper.wp Try.prog o a w K Q else E := by
  rw [if_pos (by simp [Region.wanted, hgd])]
  unfold Oper.wp
  simp [execOp, ho, resolve, invoke, builtin, hs, hx, hr, Result.andThen]
  exact h

set_option maxRecDepth 20000 in
set_option maxHeartbeats 6400000 in
theorem p11get_any {g K : Nat} {st Y : LS} {v1 : Value} {bm : Nat} {v6 : Value} {T : Nat → Prop} {w : World} (h : PEndV w g st v1 bm v6 T) (hD : Drains st K Y) (hall : st.all.length + K ≤ 1073741824) :
    Calls Try.prog 27 #[.pointer (some ⟨g, 0, none⟩)] w fun e w' => e = .returned (.tuple #[]) ∧ ∃ v6' T', PEndV w' g Y v1 bm v6' T' ∧ Only T w w' ∧ ∀ b, T' b → T b ∨ w.heap.size ≤ b := by
  obtain ⟨M, hM⟩ : ∃ M, M = st.all.length + K := ⟨_, rfl⟩
  have HM : Hid (M = st.all.length + K ∧ M ≤ 1073741824) := ⟨hM, by omega⟩
  have HI : Hid (PEndV w g st v1 bm v6 T ∧ Drains st K Y) := ⟨h, hD⟩
  clear h hD hall hM
  go_enter Try.func27, Try.ntmps27
  go_wp2_with fail
  go_loopw [2, 3] (fun _ _ wr => Hid (∃ sty k v6' Tx, PEndV wr g sty v1 bm v6' Tx ∧ Drains sty k Y ∧ sty.all.length + k ≤ M ∧ Only T w wr ∧ ∀ b, Tx b → T b ∨ w.heap.size ≤ b)) (fun _ _ wr => M - (intOf ((wr.cell? ⟨g, 4, none⟩).getD undef)).toNat)
  case atStart => exact ⟨st, K, v6, T, HI.out.1, HI.out.2, Nat.le_of_eq HM.out.1.symm, Only.refl _ _, fun b e => .inl e⟩
  case round =>
    clear HI
    obtain ⟨sty, k, u6, Tx, hV, hD, hk, hO, hT⟩ := hrel.out
    have HV : Hid (PEndV wr g sty v1 bm u6 Tx ∧ Drains sty k Y ∧ sty.all.length + k ≤ M ∧ Only T w wr ∧ ∀ b, Tx b → T b ∨ w.heap.size ≤ b) := ⟨hV, hD, hk, hO, hT⟩
    have c4 : wr.cell? ⟨g, 4, none⟩ = some (.int .i64 sty.all.length) := hV.cell 4
    have c5 : wr.cell? ⟨g, 5, none⟩ = some (.map (some bm)) := hV.cell 5
    obtain ⟨n, hn⟩ : ∃ n, n = sty.all.length := ⟨_, rfl⟩
    have hnM := HM.out.2
    rw [← hn] at c4 hk
    have HN : Hid (n = sty.all.length) := hn
    obtain ⟨v, hr, hv⟩ := (hV.draw 1).1.held.look (k := n) (by omega)
    have hr1 : (Instr.lookup 44 (.map (some bm)) (.int .i64 (n : Int)) true).run Try.prog wr.drew = .ok (.tuple #[v, .bool (sty.hold n).isSome]) wr.drew := hr
    clear hrel hr
    obtain ⟨q, hq⟩ : ∃ q, q = (sty.hold n).isSome := ⟨_, rfl⟩
    rw [← hq] at hr1
    cases q with
    | false =>
      have hnone : sty.hold n = none := by
        cases e : sty.hold n with
        | none => rfl
        | some b => rw [e] at hq; cases hq
      obtain rfl : sty = Y := hD.stop (by rw [← hn]; exact hnone)
      have HF : Hid (∃ v6' T', PEndV wr.drew g sty v1 bm v6' T' ∧ Only T w wr.drew ∧ ∀ b, T' b → T b ∨ w.heap.size ≤ b) := ⟨u6, Tx, (hV.draw 1).1, ⟨hO.os, hO.tape, hO.output, hO.size, hO.block⟩, hT⟩
      clear hV hD hv hq hnone HV hO hT hn HN
      go_wp2_with fail
      go_region
      go_wp2
      refine bodyPost_ret (results_none rfl _ _ _) rfl ?_
      exact ⟨rfl, HF.out⟩
    | true =>
      have hsome : ∃ bs p m c, sty.hold n = some bs ∧ v = .slice p m c ∧ BytG wr.drew p m c bs := by
        rcases hv with ⟨e, _⟩ | e
        · rw [e] at hq; cases hq
        · exact e
      obtain ⟨bs, p, m, c, hb, rfl, hbg⟩ := hsome
      obtain ⟨j, hkj, hdr⟩ := hD.next (b := bs) (by rw [← hn]; exact hb)
      obtain ⟨wd, r1, r2, r3⟩ := (hV.draw 2).1.held.del (k := n) (by omega) hb
      have r1' : ∀ ty, (Builtin.delete_ #[44, 3] ty #[.map (some bm), .int .i64 (n : Int)]).run Try.prog wr.drew.drew = .ok (.tuple #[]) wd := r1
      have hf := hV.fine
      have hod : Only (fun b => b = bm) (wr.drewN 2) wd := Only.of_grown r2 (fun b e => by cases e; rfl)
      have hV2 := (hV.draw 2).1
      obtain ⟨m1, m2⟩ := hV2.newHeld (w5 := wd) (st' := { sty with hold := fun q => if q = n then none else sty.hold q }) hod r3 rfl rfl rfl ⟨hf.sure, hf.sent, hf.win, hf.w16, hf.told⟩ hV2.few hV2.short
      have hbd : BytG wd p m c bs := hbg.only (w' := wd) (C := fun b => b = bm) ⟨hod.os, hod.tape, hod.output, hod.size, hod.block⟩ (fun b e => by rw [e]; exact hV2.held.notB)
      have d4 : wd.cell? ⟨g, 4, none⟩ = some (.int .i64 n) := by rw [hn]; exact m1.cell 4
      obtain ⟨a6, n6, k6, e6⟩ := m1.come.sl
      have d6 : wd.cell? ⟨g, 6, none⟩ = some (.slice a6 n6 k6) := by rw [← e6]; exact m1.cell 6
      have HW : Hid (PEndV wd g { sty with hold := fun q => if q = n then none else sty.hold q } v1 bm u6 Tx ∧ Only Tx wr wd ∧ BytG wd p m c bs) := ⟨m1, (hV.draw 2).2.trans m2 (fun b e => .inl e), hbd⟩
      have HR : Hid (RowO wd (.slice a6 n6 k6) (sty.all.drop sty.told)) := by show RowO _ _ _; rw [← e6]; exact m1.come
      have hgl := m1.lt
      have hgne : wd.heap.size ≠ g := by omega
      have HJ : Hid (k = j + 1 ∧ Drains { sty with all := sty.all ++ [bs], hold := fun q => if q = sty.all.length then none else sty.hold q } j Y) := ⟨hkj, hdr⟩
      have hal : (sty.all.drop sty.told).length ≤ 2147483648 := by have := hV.few.2; simp; omega
      have HC : Hid (∀ (w3 : World) (o : Obj) (b3 : Option Addr) (n3 k3 : Nat), RowO w3 (.slice b3 n3 k3) (sty.all.drop sty.told ++ [bs]) → (wd.alloc o).grownBy w3 (Value.slice a6 n6 k6).ownBlock → ((Value.slice b3 n3 k3).ownBlock = (Value.slice a6 n6 k6).ownBlock ∨ (Value.slice b3 n3 k3).ownBlock = some (wd.alloc o).heap.size) → (w3.cell? ⟨g, 6, none⟩ = some (.slice a6 n6 k6) ∧ w3.frozen? ⟨g, 6, none⟩ = false ∧ (w3.setCell ⟨g, 6, none⟩ (.slice b3 n3 k3)).cell? ⟨g, 4, none⟩ = some (.int .i64 n) ∧ (w3.setCell ⟨g, 6, none⟩ (.slice b3 n3 k3)).frozen? ⟨g, 4, none⟩ = false) ∧ ∃ sty' k' v6' Tx', PEndV ((w3.setCell ⟨g, 6, none⟩ (.slice b3 n3 k3)).setCell ⟨g, 4, none⟩ (.int .i64 ((n : Int) + 1))) g sty' v1 bm v6' Tx' ∧ Drains sty' k' Y ∧ sty'.all.length + k' ≤ M ∧ sty'.all.length = n + 1 ∧ Only T w ((w3.setCell ⟨g, 6, none⟩ (.slice b3 n3 k3)).setCell ⟨g, 4, none⟩ (.int .i64 ((n : Int) + 1))) ∧ ∀ b, Tx' b → T b ∨ w.heap.size ≤ b) := fun w3 o b3 n3 k3 x1 x2 x3 => by
        have ho3 : Only (fun b => u6.ownBlock = some b) wd w3 := (Only.of_below (balloc wd o)).trans (Only.of_grown x2 (fun b e => by rw [e6]; exact e)) (fun b e => .inl e)
        have q3 : w3.heap[g]? = some (.cells (pcells { sty with hold := fun q => if q = n then none else sty.hold q } v1 bm u6) 46 (0, 0)) := (ho3.block g HW.out.1.lt HW.out.1.apart.2.2.1.1).trans HW.out.1.heap
        have q4 := heap_setCell_same w3 g 6 _ _ (.slice b3 n3 k3) q3
        have hsz := HW.out.2.1.size
        have hszO := HV.out.2.2.2.1.size
        refine ⟨⟨by rw [cell_of_row w3 g 6 _ _ _ q3, ← e6]; rfl, frozen_of_row w3 g 6 _ _ q3, by rw [cell_of_row _ g 4 _ _ _ q4, HN.out]; rfl, frozen_of_row _ g 4 _ _ q4⟩, ?_⟩
        have hlt : sty.told ≤ sty.all.length := HV.out.1.fine.told
        have hdrop : (sty.all ++ [bs]).drop sty.told = sty.all.drop sty.told ++ [bs] := List.drop_append_of_le_length hlt
        have hf := HV.out.1.fine
        have hb1 := HM.out.2
        have hb2 := HV.out.2.2.1
        have hb3 := HJ.out.1
        have hn' := HN.out
        obtain ⟨T', y1, y2, y3⟩ := HW.out.1.newCome (w3 := w3) (w5 := (w3.setCell ⟨g, 6, none⟩ (.slice b3 n3 k3)).setCell ⟨g, 4, none⟩ (.int .i64 ((n : Int) + 1))) (st' := { sty with all := sty.all ++ [bs], hold := fun q => if q = sty.all.length then none else sty.hold q }) (v6' := .slice b3 n3 k3) ho3 (by show RowO _ _ ((sty.all ++ [bs]).drop sty.told); rw [hdrop]; exact x1) (by
            rcases x3 with k | k
            · exact .inl (by rw [e6]; exact k)
            · refine .inr (fun b e => ?_)
              have := Option.some.inj (k.symm.trans e)
              simp at this
              omega) ((Only.of_grown (grown_set w3 g 6 _) (fun b e => by cases e; rfl)).trans (Only.of_grown (grown_set _ g 4 _) (fun b e => by cases e; rfl)) (fun b e => .inl e)) (by
            rw [heap_setCell_same _ g 4 _ _ _ q4]
            unfold pcells
            simp [hn']) rfl (by show _ = _; rw [hn']) ⟨hf.sure, hf.sent, hf.win, hf.w16, by simp; omega⟩ ⟨HV.out.1.few.1, by simp; omega⟩ HV.out.1.short
        refine ⟨_, j, _, T', y1, HJ.out.2, by simp; omega, by simp [hn'], HV.out.2.2.2.1.trans (HW.out.2.1.trans y2 (fun b e => .inl e)) (fun b e => HV.out.2.2.2.2 b e), fun b e => ?_⟩
        rcases y3 b e with k | k
        · exact HV.out.2.2.2.2 b k
        · exact .inr (by omega)
      clear hn hV hD hv hq hb hdr hkj hod hV2 m1 m2 r2 r3 hbd hbg hO hT hf r1
      go_wp2_with fail
      go_region
      go_wp2_with fail
      go_region_law (first | (refine step_del _ (by rfl) _ _ 44 3 (by rfl) (.map (some bm)) (.int .i64 (n : Int)) (by rfl) (by rfl) wd r1' ?_))
      all_goals
        clear r1' hr1 c5
        go_wp2_with (at_builtin; refine wpList_appO _ rfl _ _ 36 rfl Try.underlying36 (.slice a6 n6 k6) (sty.all.drop sty.told) rfl (HR.out.below (balloc wd _)) wd.heap.size p m c bs rfl ?c1 (HW.out.2.2.below (balloc wd _)) hal ?_)
        case c1 => simp
        intro v3 w3 hown3 hg3 hv3
        obtain ⟨b3, n3, k3, rfl⟩ := hown3.sl
        obtain ⟨⟨z6, f6, z4, f4⟩, hfin⟩ := HC.out w3 _ b3 n3 k3 hown3 hg3 (by rw [World.size_alloc]; exact hv3)
        have HMs : Hid (((w3.setCell ⟨g, 6, none⟩ (.slice b3 n3 k3)).setCell ⟨g, 4, none⟩ (.int .i64 ((n : Int) + 1))).cell? ⟨g, 4, none⟩ = some (.int .i64 ((n : Int) + 1))) := World.cell?_setCell_same _ _ _ z4
        have hjm : n < M := by have := HJ.out.1; have := HV.out.2.2.1; have := HN.out; omega
        have HFin : Hid (∃ sty' k' v6' Tx', PEndV ((w3.setCell ⟨g, 6, none⟩ (.slice b3 n3 k3)).setCell ⟨g, 4, none⟩ (.int .i64 ((n : Int) + 1))) g sty' v1 bm v6' Tx' ∧ Drains sty' k' Y ∧ sty'.all.length + k' ≤ M ∧ Only T w ((w3.setCell ⟨g, 6, none⟩ (.slice b3 n3 k3)).setCell ⟨g, 4, none⟩ (.int .i64 ((n : Int) + 1))) ∧ ∀ b, Tx' b → T b ∨ w.heap.size ≤ b) := by
          obtain ⟨s', k', v', T', x1, x2, x3, -, x5, x6⟩ := hfin
          exact ⟨s', k', v', T', x1, x2, x3, x5, x6⟩
        clear HC HW HR HV HJ hown3 hg3 hv3 hfin d4 d6
        go_wp2
        go_roundw
        case rel => exact HFin
        case measure => rw [HMs.out, c4]; simp [intOf]; omega
end Go.Proofs.Ytnbdbahfekneoab
