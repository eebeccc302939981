/-
  The contract of the program's Encode (frame).
-/
import Derived.Test.YtpoipobmkfphcaaX10C
import Derived.Test.YtpoipobmkfphcaaX9A
import Derived.Deep.RegionHeld3
namespace Go.Proofs.Ytpoipobmkfphcaa
open Go.RowKit

/-- A row of bytes that may be handed on. -/
def PB (w : World) (a : Option Addr) (l c : Nat) (zs : List Int) : Prop := Byts w a l c zs ∧ (a = none → c = 0)
theorem PB.below {w w' : World} {a : Option Addr} {l c : Nat} {zs : List Int} (h : PB w a l c zs) (hb : Below w.heap.size w w') : PB w' a l c zs := ⟨h.1.below hb, h.2⟩
theorem bdrX (w : World) : Below w.heap.size w w.drew := ⟨rfl, rfl, rfl, Nat.le_refl _, fun _ _ => rfl⟩
theorem PB.drew {w : World} {a : Option Addr} {l c : Nat} {zs : List Int} (h : PB w a l c zs) : PB w.drew a l c zs := h.below (bdrX w)
theorem PB.grow {w : World} {a : Option Addr} {l c : Nat} {zs : List Int} (h : PB w a l c zs) (o : Obj) : PB (w.alloc o) a l c zs := h.below (balloc w o)
theorem PB.lit1 (w : World) (x : Int) (hx : 0 ≤ x ∧ x < 256) : PB (w.alloc (.cells #[.int .u8 x] 5)) (some ⟨w.heap.size, 0, none⟩) 1 1 [x] := by
  refine ⟨⟨rfl, Nat.le_refl _, by unfold maxLen; omega, fun _ => ⟨w.heap.size, 0, rfl, fun i hi => ?_⟩, fun v hv => ?_⟩, fun e => by cases e⟩
  · obtain rfl : i = 0 := by omega
    simp
  · simp at hv
    rw [hv]; exact hx
theorem bdrX' {V w : World} (h : Below V.heap.size V w) : Below V.heap.size V w.drew := ⟨h.os, h.tape, h.output, h.size, h.block⟩
theorem bgrX {V w : World} (h : Below V.heap.size V w) (o : Obj) : Below V.heap.size V (w.alloc o) := h.alloc h.size o
theorem BOwn.base {w : World} {b b' : Nat} {v : Value} {zs : List Int} (h : BOwn w b v zs) (hb : b' ≤ b) : BOwn w b' v zs := by
  obtain ⟨h1, h2 | ⟨g, cap, cur, h2, h3, h4⟩⟩ := h
  · exact ⟨h1, .inl h2⟩
  · exact ⟨h1, .inr ⟨g, cap, cur, h2, Nat.le_trans hb h3, h4⟩⟩
theorem PB.own {w : World} {base : Nat} {v : Value} {zs : List Int} (h : BOwn w base v zs) (hd : Digs 256 zs) : ∃ a l c, v = .slice a l c ∧ PB w a l c zs := by
  obtain ⟨a, n, cp, rfl, hB, -, nn⟩ := h.fresh hd
  exact ⟨a, n, cp, rfl, hB, nil9 nn⟩
/-- A frame's variable keeps its four cells. -/
def FourC (w : World) (G : Nat) (d : Bool) (s a : Int) (b : Option Addr) (lb cb : Nat) : Prop := w.cell? ⟨G, 0, none⟩ = some (.bool d) ∧ w.cell? ⟨G, 1, none⟩ = some (.int .i64 s) ∧ w.cell? ⟨G, 2, none⟩ = some (.int .i64 a) ∧ w.cell? ⟨G, 3, none⟩ = some (.slice b lb cb)

theorem cell4_0 (w : World) (x y z u : Value) (t : TypeId) : (w.alloc (.cells #[x, y, z, u] t)).cell? ⟨w.heap.size, 0, none⟩ = some x := by simp
theorem cell4_1 (w : World) (x y z u : Value) (t : TypeId) : (w.alloc (.cells #[x, y, z, u] t)).cell? ⟨w.heap.size, 1, none⟩ = some y := by simp
theorem cell4_2 (w : World) (x y z u : Value) (t : TypeId) : (w.alloc (.cells #[x, y, z, u] t)).cell? ⟨w.heap.size, 2, none⟩ = some z := by simp
theorem cell4_3 (w : World) (x y z u : Value) (t : TypeId) : (w.alloc (.cells #[x, y, z, u] t)).cell? ⟨w.heap.size, 3, none⟩ = some u := by simp

theorem cell4s_0 (w : World) (o : Obj) (x y z u : Value) (t : TypeId) : ((w.alloc o).alloc (.cells #[x, y, z, u] t)).cell? ⟨w.heap.size + 1, 0, none⟩ = some x := by have := cell4_0 (w.alloc o) x y z u t; rwa [World.size_alloc] at this
theorem cell4s_1 (w : World) (o : Obj) (x y z u : Value) (t : TypeId) : ((w.alloc o).alloc (.cells #[x, y, z, u] t)).cell? ⟨w.heap.size + 1, 1, none⟩ = some y := by have := cell4_1 (w.alloc o) x y z u t; rwa [World.size_alloc] at this
theorem cell4s_2 (w : World) (o : Obj) (x y z u : Value) (t : TypeId) : ((w.alloc o).alloc (.cells #[x, y, z, u] t)).cell? ⟨w.heap.size + 1, 2, none⟩ = some z := by have := cell4_2 (w.alloc o) x y z u t; rwa [World.size_alloc] at this
theorem cell4s_3 (w : World) (o : Obj) (x y z u : Value) (t : TypeId) : ((w.alloc o).alloc (.cells #[x, y, z, u] t)).cell? ⟨w.heap.size + 1, 3, none⟩ = some u := by have := cell4_3 (w.alloc o) x y z u t; rwa [World.size_alloc] at this
set_option maxRecDepth 20000 in
set_option maxHeartbeats 6400000 in
theorem f10enc_any (d : Bool) (s a : Int) (b : Option Addr) (lb cb : Nat) (body : List Int) (w : World) (h : Byts w b lb cb body) (hnil : b = none → cb = 0) :
    Calls Try.prog 11 #[.agg #[.bool d, .int .i64 s, .int .i64 a, .slice b lb cb]] w fun e w' => EncT d s a body w e w' := by
  have hl := h.hlen
  have hmax := h.hmax
  have hcap := h.hcap
  unfold maxLen at hmax
  have hV := balloc w (.cells #[.bool d, .int .i64 s, .int .i64 a, .slice b lb cb] 27)
  have c0 : (w.alloc (.cells #[.bool d, .int .i64 s, .int .i64 a, .slice b lb cb] 27)).cell? ⟨w.heap.size, 0, none⟩ = some (.bool d) := by simp
  have c1 : (w.alloc (.cells #[.bool d, .int .i64 s, .int .i64 a, .slice b lb cb] 27)).cell? ⟨w.heap.size, 1, none⟩ = some (.int .i64 s) := by simp
  have c2 : (w.alloc (.cells #[.bool d, .int .i64 s, .int .i64 a, .slice b lb cb] 27)).cell? ⟨w.heap.size, 2, none⟩ = some (.int .i64 a) := by simp
  have c3 : (w.alloc (.cells #[.bool d, .int .i64 s, .int .i64 a, .slice b lb cb] 27)).cell? ⟨w.heap.size, 3, none⟩ = some (.slice b lb cb) := by simp
  replace h := h.below hV
  have HL : Hid (body.length = lb) := hl
  clear hl
  go_enter Try.func11, Try.ntmps11
  go_wp2_with fail
  refine (f10may_any d s a b lb cb _ (by omega)).mono ?_
  rintro e V ⟨rfl, hb1⟩
  have hB1 := bthen hV hb1
  replace h := h.below hb1
  replace c0 := bkeep hb1 c0 rfl
  replace c1 := bkeep hb1 c1 rfl
  replace c2 := bkeep hb1 c2 rfl
  replace c3 := bkeep hb1 c3 rfl
  obtain ⟨G, hG⟩ : ∃ G, G = w.heap.size := ⟨_, rfl⟩
  have hGV : G < V.heap.size := by rw [hG]; exact Nat.lt_of_lt_of_le (by simp) hb1.size
  rw [← hG] at c0 c1 c2 c3
  rw [← hG]
  clear hV hb1 hG
  cases hr : rightFr d s a lb with
  | false =>
    have HF : Hid (ResEnc d s a body [] 1) := .inr ⟨by rw [HL.out]; exact hr, rfl, rfl⟩
    clear h c0 c1 c2 c3
    go_wp2
    go_ret2
    exact ⟨none, 0, 0, [], 1, rfl, Byts.nil _, HF.out, ⟨fun _ => rfl, fun _ e => (by cases e)⟩, hB1⟩
  | true =>
    obtain ⟨x1, x2, x3, x4, x5, -⟩ := (rightFr_iff d s a lb).1 hr
    obtain ⟨S, rfl⟩ : ∃ S : Nat, s = (S : Int) := ⟨s.toNat, by omega⟩
    obtain ⟨A, rfl⟩ : ∃ A : Nat, a = (A : Int) := ⟨a.toNat, by omega⟩
    have HR : Hid (rightFr d S A body.length = true) := by show _ = _; rw [HL.out]; exact hr
    clear hr
    obtain ⟨K, hK⟩ : ∃ K : Int, K = if d then 1 else 0 := ⟨_, rfl⟩
    have hK2 : 0 ≤ K ∧ K < 256 := by rw [hK]; cases d <;> simp
    obtain ⟨cs, kS⟩ := code_any (n := S) (by omega)
    obtain ⟨ca, kA⟩ := code_any (n := A) (by omega)
    obtain ⟨cc, kB⟩ := code_any (n := body.length) (by have := HL.out; omega)
    obtain ⟨M, hM⟩ : ∃ M, M = K :: (cs ++ (ca ++ (cc ++ body))) := ⟨_, rfl⟩
    have HK : Hid (IsHead d S A body M) := ⟨cs, ca, cc, by simpa using kS, by simpa using kA, kB, by rw [hM, hK]⟩
    have dgb := h.digs
    have dgm := HK.out.digs dgb
    have hlen := (HK.out.len HR.out).1
    have HLM : Hid (M.length ≤ 1048607) := by show _ ≤ _; have := HL.out; omega
    have HRB : Hid (Below V.heap.size V V) := Below.refl _ _
    have KEEP : ∀ {wx w' : World}, Below V.heap.size V wx → Below wx.heap.size wx w' → (w'.cell? ⟨G, 0, none⟩ = some (.bool d) ∧ w'.cell? ⟨G, 1, none⟩ = some (.int .i64 S) ∧ w'.cell? ⟨G, 2, none⟩ = some (.int .i64 A) ∧ w'.cell? ⟨G, 3, none⟩ = some (.slice b lb cb)) ∧ Hid (Below wx.heap.size wx w') ∧ Hid (Below V.heap.size V w') := fun hx hb => ⟨⟨bkeep (bthen hx hb) c0 rfl, bkeep (bthen hx hb) c1 rfl, bkeep (bthen hx hb) c2 rfl, bkeep (bthen hx hb) c3 rfl⟩, hb, bthen hx hb⟩
    have HKi : Hid (∀ wx : World, Below V.heap.size V wx → Calls Try.prog 20 #[.agg #[.bool d, .int .i64 S, .int .i64 A, .slice b lb cb]] wx fun e w' => e = .returned (.int .u8 K) ∧ (w'.cell? ⟨G, 0, none⟩ = some (.bool d) ∧ w'.cell? ⟨G, 1, none⟩ = some (.int .i64 S) ∧ w'.cell? ⟨G, 2, none⟩ = some (.int .i64 A) ∧ w'.cell? ⟨G, 3, none⟩ = some (.slice b lb cb)) ∧ Hid (Below wx.heap.size wx w') ∧ Hid (Below V.heap.size V w')) := by
      intro wx hbx
      refine (f10kind_any d S A b lb cb wx).mono ?_
      rintro e w' ⟨rfl, hb⟩
      exact ⟨by rw [hK], KEEP hbx hb⟩
    have HNs : Hid (∀ wx : World, Below V.heap.size V wx → Calls Try.prog 21 #[.int .u64 S] wx fun e w' => ∃ va vl vc, e = .returned (.slice va vl vc) ∧ Hid (PB w' va vl vc cs) ∧ (w'.cell? ⟨G, 0, none⟩ = some (.bool d) ∧ w'.cell? ⟨G, 1, none⟩ = some (.int .i64 S) ∧ w'.cell? ⟨G, 2, none⟩ = some (.int .i64 A) ∧ w'.cell? ⟨G, 3, none⟩ = some (.slice b lb cb)) ∧ Hid (Below wx.heap.size wx w') ∧ Hid (Below V.heap.size V w')) := by
      intro wx hbx
      refine (c9number_any S wx (by omega)).mono ?_
      rintro e w' ⟨v, c, rfl, ho, hc, hb⟩
      obtain ⟨va, vl, vc, rfl, hp⟩ := PB.own ho hc.digs
      rw [hc.bytes kS] at hp
      exact ⟨_, _, _, rfl, hp, KEEP hbx hb⟩
    have HNa : Hid (∀ wx : World, Below V.heap.size V wx → Calls Try.prog 21 #[.int .u64 A] wx fun e w' => ∃ va vl vc, e = .returned (.slice va vl vc) ∧ Hid (PB w' va vl vc ca) ∧ (w'.cell? ⟨G, 0, none⟩ = some (.bool d) ∧ w'.cell? ⟨G, 1, none⟩ = some (.int .i64 S) ∧ w'.cell? ⟨G, 2, none⟩ = some (.int .i64 A) ∧ w'.cell? ⟨G, 3, none⟩ = some (.slice b lb cb)) ∧ Hid (Below wx.heap.size wx w') ∧ Hid (Below V.heap.size V w')) := by
      intro wx hbx
      refine (c9number_any A wx (by omega)).mono ?_
      rintro e w' ⟨v, c, rfl, ho, hc, hb⟩
      obtain ⟨va, vl, vc, rfl, hp⟩ := PB.own ho hc.digs
      rw [hc.bytes kA] at hp
      exact ⟨_, _, _, rfl, hp, KEEP hbx hb⟩
    have HBy : Hid (∀ wx : World, Below V.heap.size V wx → Calls Try.prog 22 #[.slice b lb cb] wx fun e w' => ∃ va vl vc, e = .returned (.slice va vl vc) ∧ Hid (PB w' va vl vc (cc ++ body)) ∧ (w'.cell? ⟨G, 0, none⟩ = some (.bool d) ∧ w'.cell? ⟨G, 1, none⟩ = some (.int .i64 S) ∧ w'.cell? ⟨G, 2, none⟩ = some (.int .i64 A) ∧ w'.cell? ⟨G, 3, none⟩ = some (.slice b lb cb)) ∧ Hid (Below wx.heap.size wx w') ∧ Hid (Below V.heap.size V w')) := by
      intro wx hbx
      refine (c9bytes_any b lb cb body wx (h.below hbx) hnil (by omega)).mono ?_
      rintro e w' ⟨v, c, rfl, ho, hc, hb⟩
      obtain ⟨va, vl, vc, rfl, hp⟩ := PB.own ho (hc.digs.app9 dgb)
      rw [hc.bytes kB] at hp
      exact ⟨_, _, _, rfl, hp, KEEP hbx hb⟩
    have HCo : Hid (∀ (wx : World) (g : Nat) (a1 : Option Addr) (l1 k1 : Nat) (a2 : Option Addr) (l2 k2 : Nat) (a3 : Option Addr) (l3 k3 : Nat), (∃ a0 l0 k0, wx.cell? ⟨g, 0, none⟩ = some (.slice a0 l0 k0) ∧ PB wx a0 l0 k0 [K]) → wx.cell? ⟨g, 1, none⟩ = some (.slice a1 l1 k1) → wx.cell? ⟨g, 2, none⟩ = some (.slice a2 l2 k2) → wx.cell? ⟨g, 3, none⟩ = some (.slice a3 l3 k3) → PB wx a1 l1 k1 cs → PB wx a2 l2 k2 ca → PB wx a3 l3 k3 (cc ++ body) → Below V.heap.size V wx → Calls Try.prog 19 #[.slice (some ⟨g, 0, none⟩) 4 4] wx fun e w' => ∃ v, e = .returned v ∧ Hid (BOwn w' V.heap.size v M) ∧ (w'.cell? ⟨G, 0, none⟩ = some (.bool d) ∧ w'.cell? ⟨G, 1, none⟩ = some (.int .i64 S) ∧ w'.cell? ⟨G, 2, none⟩ = some (.int .i64 A) ∧ w'.cell? ⟨G, 3, none⟩ = some (.slice b lb cb)) ∧ Hid (Below wx.heap.size wx w') ∧ Hid (Below V.heap.size V w')) := by
      rintro wx g a1 l1 k1 a2 l2 k2 a3 l3 k3 ⟨a0, l0, k0, q0, p0⟩ q1 q2 q3 p1 p2 p3 hbx
      have hcat : catL [(a0, l0, k0, [K]), (a1, l1, k1, cs), (a2, l2, k2, ca), (a3, l3, k3, cc ++ body)] = M := by rw [hM]; simp [catL]
      have hP : Parts10 wx g [(a0, l0, k0, [K]), (a1, l1, k1, cs), (a2, l2, k2, ca), (a3, l3, k3, cc ++ body)] := by
        intro i p hp
        match i, hp with
        | 0, hp => cases hp; exact ⟨q0, p0.1, p0.2⟩
        | 1, hp => cases hp; exact ⟨q1, p1.1, p1.2⟩
        | 2, hp => cases hp; exact ⟨q2, p2.1, p2.2⟩
        | 3, hp => cases hp; exact ⟨q3, p3.1, p3.2⟩
        | i + 4, hp => simp at hp
      refine (concat10_any g 4 _ 4 wx rfl (Nat.le_refl _) (by decide) hP (by rw [hcat, hM]; simp) (by rw [hcat]; have := HLM.out; omega)).mono ?_
      rintro e w' ⟨v, rfl, ho, hb⟩
      rw [hcat] at ho
      exact ⟨v, rfl, ho.base hbx.size, KEEP hbx hb⟩
    clear KEEP kS kA kB hM hlen
    have hwS : IntKind.u64.wrap (S : Int) = S := by simp [IntKind.wrap, IntKind.signed, IntKind.bits]; omega
    have hwA : IntKind.u64.wrap (A : Int) = A := by simp [IntKind.wrap, IntKind.signed, IntKind.bits]; omega
    go_wp2_with fail
    go_cut [4] (fun pv wx => BOwn wx V.heap.size pv M ∧ Below V.heap.size V wx)
    case first =>
      clear h hnil hB1 dgb dgm HK HR HL HLM hK
      have ne0 := World.new_ne V ⟨G, 0, none⟩ c0
      go_region_held3 (fun w' => w'.cell? ⟨G, 0, none⟩ = some (.bool d) ∧ w'.cell? ⟨G, 1, none⟩ = some (.int .i64 S) ∧ w'.cell? ⟨G, 2, none⟩ = some (.int .i64 A) ∧ w'.cell? ⟨G, 3, none⟩ = some (.slice b lb cb)) (first | go_keep | exact ⟨n70, n71, n72, n73⟩ | exact ⟨n60, n61, n62, n63⟩ | exact ⟨n50, n51, n52, n53⟩ | exact ⟨n40, n41, n42, n43⟩ | exact ⟨n30, n31, n32, n33⟩)
        (first
        | (go_at_call 20; with_reducible refine Calls.mono (HKi.out _ ?_) ?_; (focus (repeat (first | exact HRB.out | exact hB3.out | exact hB4.out | exact hB5.out | exact hB6.out | refine bdrX' ?_ | refine bgrX ?_ _))); rintro e w3 ⟨rfl, ⟨n30, n31, n32, n33⟩, hb3, hB3⟩; have ne3 := World.new_ne w3 ⟨G, 0, none⟩ n30)
        | (go_at_call 21; with_reducible refine Calls.mono (HNs.out _ ?_) ?_; (focus (repeat (first | exact HRB.out | exact hB3.out | exact hB4.out | exact hB5.out | exact hB6.out | refine bdrX' ?_ | refine bgrX ?_ _))); rintro e w4 ⟨sa, sn, sc, rfl, hP4, ⟨n40, n41, n42, n43⟩, hb4, hB4⟩; have ne4 := World.new_ne w4 ⟨G, 0, none⟩ n40)
        | (go_at_call 21; with_reducible refine Calls.mono (HNa.out _ ?_) ?_; (focus (repeat (first | exact HRB.out | exact hB3.out | exact hB4.out | exact hB5.out | exact hB6.out | refine bdrX' ?_ | refine bgrX ?_ _))); rintro e w5 ⟨ta, tn, tc, rfl, hP5, ⟨n50, n51, n52, n53⟩, hb5, hB5⟩; have ne5 := World.new_ne w5 ⟨G, 0, none⟩ n50)
        | (go_at_call 22; with_reducible refine Calls.mono (HBy.out _ ?_) ?_; (focus (repeat (first | exact HRB.out | exact hB3.out | exact hB4.out | exact hB5.out | exact hB6.out | refine bdrX' ?_ | refine bgrX ?_ _))); rintro e w6 ⟨ua, un, uc, rfl, hP6, ⟨n60, n61, n62, n63⟩, hb6, hB6⟩; have ne6 := World.new_ne w6 ⟨G, 0, none⟩ n60)
        | (go_at_call 19; with_reducible refine Calls.mono (HCo.out _ _ sa sn sc ta tn tc ua un uc ?_ ?_ ?_ ?_ ?_ ?_ ?_ ?_) ?_; (focus (first | refine ⟨_, _, _, cell4_0 _ _ _ _ _ _, ?_⟩ | refine ⟨_, _, _, cell4s_0 _ _ _ _ _ _ _, ?_⟩); (focus (repeat (first | with_reducible exact PB.lit1 _ _ hK2 | with_reducible exact hP4.out | with_reducible exact hP5.out | with_reducible exact hP6.out | with_reducible refine PB.drew ?_ | with_reducible refine PB.grow ?_ _ | with_reducible refine PB.below ?_ hb4.out | with_reducible refine PB.below ?_ hb5.out | with_reducible refine PB.below ?_ hb6.out)))); (focus (first | exact cell4_1 _ _ _ _ _ _ | exact cell4s_1 _ _ _ _ _ _ _)); (focus (first | exact cell4_2 _ _ _ _ _ _ | exact cell4s_2 _ _ _ _ _ _ _)); (focus (first | exact cell4_3 _ _ _ _ _ _ | exact cell4s_3 _ _ _ _ _ _ _)); (focus (repeat (first | with_reducible exact PB.lit1 _ _ hK2 | with_reducible exact hP4.out | with_reducible exact hP5.out | with_reducible exact hP6.out | with_reducible refine PB.drew ?_ | with_reducible refine PB.grow ?_ _ | with_reducible refine PB.below ?_ hb4.out | with_reducible refine PB.below ?_ hb5.out | with_reducible refine PB.below ?_ hb6.out))); (focus (repeat (first | with_reducible exact PB.lit1 _ _ hK2 | with_reducible exact hP4.out | with_reducible exact hP5.out | with_reducible exact hP6.out | with_reducible refine PB.drew ?_ | with_reducible refine PB.grow ?_ _ | with_reducible refine PB.below ?_ hb4.out | with_reducible refine PB.below ?_ hb5.out | with_reducible refine PB.below ?_ hb6.out))); (focus (repeat (first | with_reducible exact PB.lit1 _ _ hK2 | with_reducible exact hP4.out | with_reducible exact hP5.out | with_reducible exact hP6.out | with_reducible refine PB.drew ?_ | with_reducible refine PB.grow ?_ _ | with_reducible refine PB.below ?_ hb4.out | with_reducible refine PB.below ?_ hb5.out | with_reducible refine PB.below ?_ hb6.out))); (focus (repeat (first | exact HRB.out | exact hB3.out | exact hB4.out | exact hB5.out | exact hB6.out | refine bdrX' ?_ | refine bgrX ?_ _))); rintro e w7 ⟨v7, rfl, hO7, ⟨n70, n71, n72, n73⟩, hb7, hB7⟩))
      all_goals
        clear HKi HNs HNa HBy HCo HRB
        go_wp2_with fail
        go_meet
        case rel => exact ⟨hO7.out, hB7.out⟩
    case rest =>
      obtain ⟨hO, hb2⟩ := hcut
      clear HKi HNs HNa HBy HCo HRB h c0 c1 c2 c3 hwS hwA x1 x2 x3 x4 x5 hcap hmax
      have HE : Hid (IsEnc d S A body (M ++ be4 (sumC M))) := ⟨M, HK.out, rfl⟩
      have dg10 := HE.out.digs dgb
      obtain ⟨oa, on, oc, hv, hOb, -, nnO⟩ := hO.fresh dgm
      have HO : Hid (BOwn wc V.heap.size (.slice oa on oc) M) := by show BOwn _ _ _ _; rw [← hv]; exact hO
      subst hv
      clear hO
      go_wp2_with fail
      refine (f10four_any oa on oc M _ hOb).mono ?_
      rintro e w3 ⟨q, rfl, h4, hb3⟩
      have hO3 := own9 HO.out hb3
      have hB3 := bthen hb2 hb3
      clear HO hOb nnO hb2 hb3
      go_wp2_with (at_builtin; refine wpList_appBW _ rfl _ _ 22 rfl Try.underlying22 V.heap.size _ _ rfl hO3 (some q) 4 4 _ rfl h4 (fun e => by cases e) ?c1 V ?c2 hB3 ?_)
      case c1 => have := HLM.out; omega
      case c2 => exact hB3.size
      rintro v10 w10 own10 b10 -
      obtain ⟨ra, rn, rc, rfl, hZ, qbZ, nnZ⟩ := own10.fresh dg10
      have hBB := bthen hB1 b10
      have HZ : Hid (Byts w10 ra rn rc (M ++ be4 (sumC M)) ∧ ((ra = none → rc = 0) ∧ ∀ ad, ra = some ad → 0 < rn → w.heap.size ≤ ad.block ∧ IsB w10 ad.block)) := ⟨hZ, nil9 nnZ, fun ad e h0 => by
        obtain ⟨q, e2, hq, cur, hqc, -⟩ := qbZ h0
        rw [e] at e2
        cases e2
        exact ⟨Nat.le_trans hB1.size hq, cur, hqc⟩⟩
      clear hO3 h4 own10 b10 hZ nnZ qbZ dg10 dgm hB3
      go_wp2
      go_ret2
      exact ⟨ra, rn, rc, _, 0, rfl, HZ.out.1, .inl ⟨HR.out, HE.out, rfl⟩, HZ.out.2, hBB⟩
theorem enc_ok10 : EncOk10 := fun d s a b lb cb body w h hn _ _ => f10enc_any d s a b lb cb body w h hn
end Go.Proofs.Ytpoipobmkfphcaa
