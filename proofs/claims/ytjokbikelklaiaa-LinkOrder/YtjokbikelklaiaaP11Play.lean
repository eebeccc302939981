/-
  Stage 11's laws: one step that is played.
-/
import Derived.Test.YtjokbikelklaiaaP11W
namespace Go.Proofs.Ytjokbikelklaiaa
open Go.RowKit

theorem and_one (t : Int) : ∃ k : Nat, k < 2 ∧ bits .and .i64 t 1 = (k : Int) := by
  have h : (BitVec.ofInt 64 t &&& 1#64).toNat < 2 := by
    rw [BitVec.toNat_and, show (1#64 : BitVec 64).toNat = 1 from rfl, Nat.and_one_is_mod]
    exact Nat.mod_lt _ (by decide)
  have h2 : ∀ q : Nat, q < 2 → ∃ k : Nat, k < 2 ∧ (if 9223372036854775808 ≤ (q : Int) % 18446744073709551616 then (q : Int) % 18446744073709551616 - 18446744073709551616 else (q : Int) % 18446744073709551616) = (k : Int) := fun q hq => ⟨q, hq, by split <;> omega⟩
  unfold bits
  simp [IntKind.wrap, IntKind.bits, IntKind.signed]
  exact h2 _ h
/-- Two ends and the frames of each. -/
def BothF (s : Nat → LS) (ou : Nat → List Fr11) : Prop := Both (s 0) (s 1) (ou 0) (ou 1)
theorem two_ways {k : Nat} (hk : k < 2) : k = 0 ∨ k = 1 := by omega
theorem put01 {α : Type} (f : Nat → α) (x : α) : put f 0 x 0 = x ∧ put f 0 x 1 = f 1 ∧ put f 1 x 0 = f 0 ∧ put f 1 x 1 = x := ⟨rfl, rfl, rfl, rfl⟩
theorem BothF.send {s : Nat → LS} {ou : Nat → List Fr11} (h : BothF s ou) {k : Nat} (hk : k < 2) (b : List Int) : BothF (put s k ((s k).send b)) ou := by
  rcases two_ways hk with rfl | rfl
  · exact Both.send h b
  · exact (Both.send h.turn b).turn
theorem BothF.tick {s : Nat → LS} {ou : Nat → List Fr11} (h : BothF s ou) {k : Nat} (hk : k < 2) : BothF (put s k (s k).ticked) ou := by
  rcases two_ways hk with rfl | rfl
  · exact Both.tick h
  · exact (Both.tick h.turn).turn
theorem BothF.out {s : Nat → LS} {ou : Nat → List Fr11} (h : BothF s ou) {k : Nat} (hk : k < 2) : BothF (put s k (s k).out) (put ou k (ou k ++ (s k).outF)) := by
  rcases two_ways hk with rfl | rfl
  · exact Both.out h
  · exact (Both.out h.turn).turn
theorem BothF.in {s : Nat → LS} {ou : Nat → List Fr11} (h : BothF s ou) {k : Nat} (hk : k < 2) {f : Fr11} (hf : f ∈ ou (1 - k)) : BothF (put s k ((s k).inF f)) ou := by
  rcases two_ways hk with rfl | rfl
  · exact (Both.in h hf).2
  · exact (Both.in h.turn hf).2.turn
theorem Both.toldX {x y : LS} {ox oy : List Fr11} (h : Both x y ox oy) (t : Nat) (ht : t ≤ x.all.length) : Both { x with told := t } y ox oy :=
  ⟨⟨h.fx.sure, h.fx.sent, h.fx.win, h.fx.w16, h.fx.hold, ht⟩, h.fy, ⟨h.kx.all, h.kx.len, h.kx.hold, h.kx.sure, h.kx.frames, h.kx.acks⟩, ⟨h.ky.all, h.ky.len, h.ky.hold, h.ky.sure, h.ky.frames, h.ky.acks⟩⟩
theorem BothF.told {s : Nat → LS} {ou : Nat → List Fr11} (h : BothF s ou) {k : Nat} (hk : k < 2) (t : Nat) (ht : t ≤ (s k).all.length) : BothF (put s k { s k with told := t }) ou := by
  rcases two_ways hk with rfl | rfl
  · exact Both.toldX h t ht
  · exact (Both.toldX h.turn t ht).turn
theorem BothF.begins {s : Nat → LS} {ou : Nat → List Fr11} (h : BothF s ou) {k : Nat} (hk : k < 2) : (s k).all.length ≤ (s (1 - k)).took.length ∧ (s k).all = (s (1 - k)).took.take (s k).all.length ∧ (s (1 - k)).sure ≤ (s k).all.length := by
  rcases two_ways hk with rfl | rfl
  · exact Both.begins h
  · exact Both.begins h.turn
theorem T11.alone {At : World → Nat → LS → (Nat → Prop) → Prop} {w : World} {v : Nat} {s : Nat → LS} {ou : Nat → List Fr11} {x : Value} {ys : List (List Int)} {w' : World} (h : T11 At w v s ou x ys w') : T11 At w v s ou (.slice none 0 0) [] w' := by
  obtain ⟨g, T, u, rows, hJ⟩ := h
  exact ⟨g, T, u, rows, ⟨hJ.mem, hJ.links, RowB.nil _, fun b e => by simp [Value.ownBlock] at e⟩⟩
theorem T11.grow {At : World → Nat → LS → (Nat → Prop) → Prop} (A : EndKept11 At) {w : World} {v : Nat} {s : Nat → LS} {ou : Nat → List Fr11} {x : Value} {ys : List (List Int)} {wx wy : World} (h : T11 At w v s ou x ys wx) (hb : Below wx.heap.size wx wy) : T11 At w v s ou x ys wy := by
  obtain ⟨g, T, u, rows, hJ⟩ := h
  exact ⟨g, T, u, rows, hJ.grow A hb⟩
theorem T11.below {At : World → Nat → LS → (Nat → Prop) → Prop} {w : World} {v : Nat} {s : Nat → LS} {ou : Nat → List Fr11} {x : Value} {ys : List (List Int)} {wx : World} (h : T11 At w v s ou x ys wx) : Below w.heap.size w wx := by
  obtain ⟨g, T, u, rows, hJ⟩ := h
  exact hJ.mem.below
/-- A frame comes to one end. -/
theorem T11.came {At : World → Nat → LS → (Nat → Prop) → Prop} (A : EndKept11 At) {w : World} {v k : Nat} {s : Nat → LS} {ou : Nat → List Fr11} {x : Value} {ys : List (List Int)} {g : Nat → Nat} {T : Nat → Nat → Prop} {u : Nat → Value} {rows : Nat → List (List Int)} {wx wy : World} {e : Ending} {f : Fr11} {bs : List Int} (hk : k < 2) (h : J11 At w v s ou x ys g T u rows wx) (hf : IsFr f bs) (hI : InT11 At wx (g k) (s k) (T k) bs e wy) : e = .returned (.int .i64 ((s k).inE f)) ∧ ∃ T', J11 At w v (put s k ((s k).inF f)) ou x ys g (put T k T') u rows wy := by
  rcases hI with ⟨hn, -, -⟩ | ⟨f', hf', he, T', hE⟩
  · exact absurd hf (hn f)
  · obtain rfl := hf.inj hf'
    obtain ⟨m1, m2, m3⟩ := h.onEnd A hk hE
    refine ⟨he, T', ⟨m1, fun i hi => ?_, m2, m3⟩⟩
    obtain ⟨r1, r2, r3⟩ := h.links i hi
    by_cases c : i = k
    · subst c
      rw [put_same]
      have ht : ((s i).inF f).took = (s i).took ∧ ((s i).inF f).told = (s i).told ∧ ((s i).inF f).all.take ((s i).inF f).told = (s i).all.take (s i).told := by
        have hF := (A.foot (h.mem.ends i hi)).1
        unfold LS.inF
        split
        · exact ⟨rfl, rfl, rfl⟩
        · split
          · obtain ⟨⟨-, d2, -, -, d5, -, -⟩, l', d7, -, -⟩ := LS.drain_of 16 (LS.keep { (s i).acked f.ack with owes := true } f.seq f.body)
            have ks := LS.keep_same { (s i).acked f.ack with owes := true } f.seq f.body
            refine ⟨d2.trans ks.2.1, d5.trans ks.2.2.2.2.1, ?_⟩
            rw [d7, d5.trans ks.2.2.2.2.1, ks.2.2.2.2.2.2.2]
            exact List.take_append_of_le_length hF.told
          · exact ⟨rfl, rfl, rfl⟩
      exact ⟨r1.trans ht.1.symm, r2.trans ht.2.2.symm, r3⟩
    · rw [put_other _ _ c]
      exact ⟨r1, r2, r3⟩
/-- What a step makes of two ends. -/
def PlayR (s : Nat → LS) (ou : Nat → List Fr11) (s' : Nat → LS) (ou' : Nat → List Fr11) : Prop := BothF s' ou' ∧ (∀ k, k < 2 → (s' k).took.length ≤ (s k).took.length + 1 ∧ (ou' k).length ≤ (ou k).length + 100) ∧ ((∀ k, k < 2 → (s k).took.length ≤ (s k).sure + 64) → ∀ k, k < 2 → (s' k).took.length ≤ (s' k).sure + 64)
theorem PlayR.none {s : Nat → LS} {ou : Nat → List Fr11} (h : BothF s ou) : PlayR s ou s ou := ⟨h, fun _ _ => ⟨by omega, by omega⟩, id⟩
theorem PlayR.at {s : Nat → LS} {ou ou' : Nat → List Fr11} {k : Nat} {z : LS} (hk : k < 2) (h : BothF (put s k z) ou') (h1 : z.took.length ≤ (s k).took.length + 1) (h2 : ∀ i, i < 2 → (ou' i).length ≤ (ou i).length + 100) (h3 : (s k).took.length ≤ (s k).sure + 64 → z.took.length ≤ z.sure + 64) : PlayR s ou (put s k z) ou' := ⟨h, fun i hi => by
  refine ⟨?_, h2 i hi⟩
  by_cases c : i = k
  · rw [c, put_same]; exact h1
  · rw [put_other _ _ c]; omega, fun hq i hi => by
  by_cases c : i = k
  · rw [c, put_same]; exact h3 (hq k hk)
  · rw [put_other _ _ c]; exact hq i hi⟩
theorem LS.in_sure (x : LS) (f : Fr11) : x.sure ≤ (x.inF f).sure := by
  unfold LS.inF
  split
  · exact Nat.le_refl _
  · split
    · obtain ⟨⟨-, -, d3, -⟩, -⟩ := LS.drain_of 16 (LS.keep { x.acked f.ack with owes := true } f.seq f.body)
      rw [d3, (LS.keep_same _ _ _).2.2.1]
      exact Nat.le_max_left _ _
    · exact Nat.le_max_left _ _
theorem LS.send_queue (x : LS) (b : List Int) (h : x.took.length ≤ x.sure + 64) : (x.send b).took.length ≤ (x.send b).sure + 64 := by
  unfold LS.send
  split
  · rename_i e
    unfold LS.sendE at e
    split at e
    · omega
    · split at e
      · omega
      · simp
        omega
  · exact h
theorem LS.in_took (x : LS) (f : Fr11) : (x.inF f).took = x.took := by
  unfold LS.inF
  split
  · rfl
  · split
    · obtain ⟨⟨-, d2, -⟩, -⟩ := LS.drain_of 16 (LS.keep { x.acked f.ack with owes := true } f.seq f.body)
      exact d2.trans (LS.keep_same _ _ _).2.1
    · rfl
theorem LS.send_took (x : LS) (b : List Int) : (x.send b).took.length ≤ x.took.length + 1 := by
  unfold LS.send
  split
  · simp
  · omega

set_option maxRecDepth 20000 in
set_option maxHeartbeats 12800000 in
theorem play11_any {At : World → Nat → LS → (Nat → Prop) → Prop} (A : EndOk11 At) (v : Nat) (s : Nat → LS) (ou : Nat → List Fr11) (w w0 : World) (h : T11 At w v s ou (.slice none 0 0) [] w0) (hBo : BothF s ou) (d t n : Int) (p : Option Addr) (l c : Nat) (body : List Int) (hb : ∀ wx, Below w.heap.size w wx → Byts wx p l c body) (hnil : p = none → c = 0) (hlen : l ≤ 140737488355300) (hto : ∀ k, k < 2 → (s k).took.length ≤ 1000 ∧ (ou k).length ≤ 100000) :
    Calls Try.prog 23 #[.pointer (some ⟨v, 0, none⟩), .agg #[.int .i64 d, .int .i64 t, .int .i64 n, .slice p l c]] w0 fun e w' => e = .returned (.tuple #[]) ∧ ∃ s' ou', T11 At w v s' ou' (.slice none 0 0) [] w' ∧ PlayR s ou s' ou' := by
  obtain ⟨k, hk, hkz⟩ := and_one t
  obtain ⟨o, ho⟩ : ∃ o, o = 1 - k := ⟨_, rfl⟩
  have hki : (k : Int) < 2 := by omega
  have hk0 : (0 : Int) ≤ (k : Int) := by omega
  have hoi : (1 : Int) - (k : Int) = (o : Int) := by omega
  have ho2 : o < 2 := by omega
  have HT : Hid (T11 At w v s ou (.slice none 0 0) [] (w0.alloc (.cells #[.int .i64 d, .int .i64 t, .int .i64 n, .slice p l c] 33)) ∧ BothF s ou ∧ (∀ k, k < 2 → (s k).took.length ≤ 1000 ∧ (ou k).length ≤ 100000) ∧ o = 1 - k) := ⟨h.grow A.toEndKept11 (balloc w0 _), hBo, hto, ho⟩
  have HB : Hid (∀ wx, Below w.heap.size w wx → Byts wx p l c body) := hb
  have hbl : l ≤ c ∧ c ≤ 9223372036854775807 := by
    have := hb w0 h.below
    have h1 := this.hcap
    have h2 := this.hmax
    unfold maxLen at h2
    exact ⟨h1, h2⟩
  clear h hBo hto hb ho
  go_enter Try.func23, Try.ntmps23
  by_cases d0 : d = 0
  · subst d0
    by_cases hl : l ≤ 1000
    · have hld : decide ((l : Int) ≤ 1000) = true := decide_eq_true (by omega)
      have HC := (show Hid _ from send11_any A v k s ou (.slice none 0 0) [] w _ hk HT.out.1 p l c body HB.out hnil hlen (by have := (HT.out.2.2.1 k hk).1; omega))
      go_wp2_with fail
      refine Calls.mono HC.out ?_
      rintro e w1 ⟨rfl, h1⟩
      have HF : Hid (∃ s' ou', T11 At w v s' ou' (.slice none 0 0) [] w1 ∧ PlayR s ou s' ou') := ⟨_, _, h1, PlayR.at hk (HT.out.2.1.send hk body) (LS.send_took _ _) (fun i hi => by omega) (LS.send_queue _ _)⟩
      clear HC h1 HT HB
      go_wp2
      go_end0
      exact ⟨rfl, HF.out⟩
    · have hld : decide ((l : Int) ≤ 1000) = false := decide_eq_false (by omega)
      have HF : Hid (∃ s' ou', T11 At w v s' ou' (.slice none 0 0) [] (w0.alloc (.cells #[.int .i64 0, .int .i64 t, .int .i64 n, .slice p l c] 33)) ∧ PlayR s ou s' ou') := ⟨_, _, HT.out.1, PlayR.none HT.out.2.1⟩
      clear HT HB
      go_wp2
      go_end0
      exact ⟨rfl, HF.out⟩
  have d0d : (d == 0) = false := by simp [d0]
  by_cases d1 : d = 1
  · subst d1
    obtain ⟨g, T, u, rows, hJ⟩ := HT.out.1
    have ck : (w0.alloc (.cells #[.int .i64 1, .int .i64 t, .int .i64 n, .slice p l c] 33)).cell? ⟨v, k, none⟩ = some (.pointer (some ⟨g k, 0, none⟩)) := by rw [cell_of_row _ v k _ _ _ hJ.mem.heap]; exact cells11_end g u hk
    have HC := (show Hid _ from A.tick (g k) (s k) (T k) _ (hJ.mem.ends k hk))
    obtain ⟨gk, hgk⟩ : ∃ gk, gk = g k := ⟨_, rfl⟩
    rw [← hgk] at ck HC
    have HG : Hid (gk = g k) := hgk
    have HJ : Hid (J11 At w v s ou (.slice none 0 0) [] g T u rows (w0.alloc (.cells #[.int .i64 1, .int .i64 t, .int .i64 n, .slice p l c] 33))) := hJ
    have hvl : v < w0.heap.size ∨ w0.heap.size < v ∨ v = w0.heap.size := by omega
    obtain ⟨W, hW⟩ : ∃ W, W = w0.alloc (.cells #[.int .i64 1, .int .i64 t, .int .i64 n, .slice p l c] 33) := ⟨_, rfl⟩
    clear hJ hgk d0 d0d hvl
    go_wp2_with fail
    refine Calls.mono HC.out ?_
    rintro e w1 ⟨rfl, T', hE⟩
    rw [HG.out] at hE
    obtain ⟨m1, m2, m3⟩ := HJ.out.onEnd A.toEndKept11 hk hE
    have HF : Hid (∃ s' ou', T11 At w v s' ou' (.slice none 0 0) [] w1 ∧ PlayR s ou s' ou') := ⟨_, ou, ⟨g, _, u, rows, ⟨m1, fun i hi => by
      obtain ⟨r1, r2, r3⟩ := HJ.out.links i hi
      by_cases c : i = k
      · subst c
        rw [put_same]
        exact ⟨r1, r2, r3⟩
      · rw [put_other _ _ c]
        exact ⟨r1, r2, r3⟩, m2, m3⟩⟩, PlayR.at hk (HT.out.2.1.tick hk) (by show (s k).took.length ≤ _; omega) (fun i hi => by omega) id⟩
    clear HC hE m1 m2 m3 HT HB HJ hW
    go_wp2
    go_end0
    exact ⟨rfl, HF.out⟩
  have d1d : (d == 1) = false := by simp [d1]
  by_cases d2 : d = 2
  · subst d2
    have HC := (show Hid _ from flush11_any A v k s ou (.slice none 0 0) [] w _ hk HT.out.1 (by have := (HT.out.2.2.1 k hk).2; omega))
    clear d0 d0d d1 d1d
    go_wp2_with fail
    refine Calls.mono HC.out ?_
    rintro e w1 ⟨x', ys', rfl, hfr, h1⟩
    have hlf : (s k).outF.length ≤ 100 := by
      obtain ⟨g, T, u, rows, hJ⟩ := HT.out.1
      exact LS.outF_len _ (A.foot (hJ.mem.ends k hk)).1
    have HF : Hid (∃ s' ou', T11 At w v s' ou' (.slice none 0 0) [] w1 ∧ PlayR s ou s' ou') := ⟨_, _, h1.alone, PlayR.at hk (HT.out.2.1.out hk) (by show (s k).took.length ≤ _; omega) (fun i hi => by
      by_cases c : i = k
      · subst c
        rw [put_same]
        simp
        omega
      · rw [put_other _ _ c]
        omega) id⟩
    clear HC h1 HT HB hfr hlf
    go_wp2
    go_end0
    exact ⟨rfl, HF.out⟩
  have d2d : (d == 2) = false := by simp [d2]
  by_cases d3 : d = 3
  · subst d3
    clear d0 d0d d1 d1d d2 d2d
    go_wp2_with fail
    have V2 : (w0.alloc (.cells #[.int .i64 3, .int .i64 t, .int .i64 n, .slice p l c] 33)).cell? ⟨w0.heap.size, 2, none⟩ = some (.int .i64 n) := by simp
    generalize hW : World.alloc w0 _ = W at HT V2 ⊢
    generalize hV : w0.heap.size = V at V2 ⊢
    clear hW hV
    obtain ⟨g, T, u, rows, hJ⟩ := HT.out.1
    obtain ⟨gk, hgk⟩ : ∃ gk, gk = g k := ⟨_, rfl⟩
    have ck : W.cell? ⟨v, k, none⟩ = some (.pointer (some ⟨gk, 0, none⟩)) := by rw [cell_of_row W v k _ _ _ hJ.mem.heap, hgk]; exact cells11_end g u hk
    have hR := hJ.mem.row (4 + o) (by omega)
    obtain ⟨nr, hnr⟩ : ∃ nr, nr = (rows (4 + o)).length := ⟨_, rfl⟩
    obtain ⟨a4, c4, e4, -, hc1, hc2⟩ := hR.slice
    rw [← hnr] at e4 hc1
    have d6 : W.cell? ⟨v, 6 + o, none⟩ = some (.slice a4 nr c4) := by
      rw [cell_of_row W v (6 + o) _ _ _ hJ.mem.heap, ← e4, show 6 + o = 2 + (4 + o) by omega]
      exact cells11_row g u (by omega)
    have ho2i : (o : Int) < 2 := by omega
    have ho0 : (0 : Int) ≤ (o : Int) := by omega
    have hlf := (hJ.links o ho2).2.2
    have hoL : nr ≤ 100000 := by
      rw [hnr, hlf.1]
      exact (HT.out.2.2.1 o ho2).2
    have HJ : Hid (J11 At w v s ou (.slice none 0 0) [] g T u rows W ∧ RowB W (.slice a4 nr c4) (rows (4 + o)) ∧ IsFrs (ou o) (rows (4 + o)) ∧ nr = (rows (4 + o)).length ∧ gk = g k) := ⟨hJ, by rw [← e4]; exact hR, hlf, hnr, hgk⟩
    have HNo : ∀ j, Hid (∃ s' ou', T11 At w v s' ou' (.slice none 0 0) [] (W.drewN j) ∧ PlayR s ou s' ou') := fun j => ⟨s, ou, HT.out.1.grow A.toEndKept11 ⟨rfl, rfl, rfl, Nat.le_refl _, fun _ _ => rfl⟩, PlayR.none HT.out.2.1⟩
    unfold maxLen at hc2
    clear hJ hgk hR hlf hnr e4
    by_cases hn0 : 0 ≤ n
    · obtain ⟨N, rfl⟩ : ∃ N : Nat, n = (N : Int) := ⟨n.toNat, by omega⟩
      by_cases hN : N < nr
      · have hNd : decide (N < nr) = true := decide_eq_true hN
        have hNi : (N : Int) < (nr : Int) := by omega
        obtain ⟨gq, cq, q, ql, qc, x1, x2, x3⟩ := HJ.out.2.1.at (i := N) (by rw [← HJ.out.2.2.2.1]; exact hN)
        rw [← HJ.out.2.2.2.1] at x1
        obtain ⟨rfl, -, rfl⟩ : a4 = some ⟨gq, 0, none⟩ ∧ nr = nr ∧ c4 = cq := by injection x1 with r1 r2 r3; exact ⟨r1, rfl, r3⟩
        obtain ⟨bs, hbs⟩ : ∃ bs, bs = (rows (4 + o)).getD N [] := ⟨_, rfl⟩
        rw [← hbs] at x3
        obtain ⟨f, hf⟩ : ∃ f, f = (ou o).getD N ⟨false, 0, 0, []⟩ := ⟨_, rfl⟩
        have hNo : N < (ou o).length := by rw [← HJ.out.2.2.1.1, ← HJ.out.2.2.2.1]; exact hN
        have hfr : IsFr f bs := by rw [hf, hbs]; exact HJ.out.2.2.1.2 N hNo
        have hfm : f ∈ ou o := by rw [hf]; simp [List.getD, hNo]
        have hal : (s k).all.length ≤ 1000 := by
          have h1 := (HT.out.2.1.begins hk).1
          have h2 := (HT.out.2.2.1 (1 - k) (by omega)).1
          omega
        have hql : ql ≤ 140737488355300 := by
          have h1 := x3.byts.hlen
          obtain ⟨m, hm, e⟩ := hfr.2
          have h3 := (hm.len hfr.1).1
          have h4 := ((rightFr_iff _ _ _ _).1 hfr.1).2.2.2.2.1
          have h5 : bs.length = m.length + 4 := by rw [e]; simp [be4]
          omega
        have HIn : Hid (∀ wx : World, wx.heap = W.heap → wx.os = W.os → wx.tape = W.tape → wx.output = W.output → Calls Try.prog 16 #[.pointer (some ⟨gk, 0, none⟩), .slice q ql qc] wx fun e w' => (∃ z, e = .returned (.int .i64 z)) ∧ Hid (∃ s' ou', T11 At w v s' ou' (.slice none 0 0) [] w' ∧ PlayR s ou s' ou')) := fun wx y1 y2 y3 y4 => by
          have hbj : Below W.heap.size W wx := ⟨y2, y3, y4, by rw [y1]; exact Nat.le_refl _, fun _ _ => by rw [y1]⟩
          have hJj := HJ.out.1.grow A.toEndKept11 hbj
          have := A.inn (g k) (s k) (T k) q ql qc bs wx (hJj.mem.ends k hk) (x3.below hbj).byts x3.nil hql (by omega)
          rw [HJ.out.2.2.2.2]
          refine this.mono ?_
          intro e w' hI
          obtain ⟨he, T', h1⟩ := T11.came A.toEndKept11 hk hJj hfr hI
          refine ⟨⟨_, he⟩, _, ou, ⟨g, _, u, rows, h1⟩, PlayR.at hk (HT.out.2.1.in hk (by rw [← HT.out.2.2.2]; exact hfm)) (by rw [LS.in_took]; omega) (fun i hi => by omega) (fun h => by rw [LS.in_took]; have := LS.in_sure (s k) f; omega)⟩
        clear HJ HNo HT HB x1 x3 hbs hf hNo hfr hfm hal hql
        rcases two_ways hk with rfl | rfl
        · obtain rfl : o = 1 := by omega
          have ck' : W.cell? ⟨v, 0, none⟩ = some (.pointer (some ⟨gk, 0, none⟩)) := ck
          have d6' : W.cell? ⟨v, 7, none⟩ = some (.slice (some ⟨gq, 0, none⟩) nr c4) := d6
          clear ck d6 hoi hki hk0 ho2i ho0 hk ho2
          go_quiet (fail)
          go_wp2_with fail
          go_region_with (first
            | (go_at_call 16; with_reducible refine Calls.mono (HIn.out _ rfl rfl rfl rfl) ?_; rintro e w3 ⟨⟨z, rfl⟩, hZ⟩))
          all_goals
            clear HIn
            go_wp2
            go_end0
            exact ⟨rfl, hZ.out⟩
        · obtain rfl : o = 0 := by omega
          have ck' : W.cell? ⟨v, 1, none⟩ = some (.pointer (some ⟨gk, 0, none⟩)) := ck
          have d6' : W.cell? ⟨v, 6, none⟩ = some (.slice (some ⟨gq, 0, none⟩) nr c4) := d6
          clear ck d6 hoi hki hk0 ho2i ho0 hk ho2
          go_quiet (fail)
          go_wp2_with fail
          go_region_with (first
            | (go_at_call 16; with_reducible refine Calls.mono (HIn.out _ rfl rfl rfl rfl) ?_; rintro e w3 ⟨⟨z, rfl⟩, hZ⟩))
          all_goals
            clear HIn
            go_wp2
            go_end0
            exact ⟨rfl, hZ.out⟩
      · have hNd : decide (N < nr) = false := decide_eq_false hN
        clear HJ HT HB
        go_quiet (fail)
        go_wp2
        go_end0
        exact ⟨rfl, (HNo _).out⟩
    · have hn0d : decide (0 ≤ n) = false := decide_eq_false hn0
      clear HJ HT HB
      go_quiet (fail)
      go_wp2
      go_end0
      exact ⟨rfl, (HNo _).out⟩
  have d3d : (d == 3) = false := by simp [d3]
  have HF : Hid (∃ s' ou', T11 At w v s' ou' (.slice none 0 0) [] (w0.alloc (.cells #[.int .i64 d, .int .i64 t, .int .i64 n, .slice p l c] 33)) ∧ PlayR s ou s' ou') := ⟨_, _, HT.out.1, PlayR.none HT.out.2.1⟩
  clear HT HB
  go_wp2
  go_end0
  exact ⟨rfl, HF.out⟩
end Go.Proofs.Ytjokbikelklaiaa
