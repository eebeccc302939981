/-
  The contract of the program's Encode (frame).
  What the readings of a frame's parts tell; the contract of the program's read (frame).
  The contract of the program's Decode (frame).
-/
import Derived.Test.YtjokbikelklaiaaX10P
import Derived.Test.YtjokbikelklaiaaX9P
import Derived.Deep.RegionHeld3
namespace Go.Proofs.Ytjokbikelklaiaa
open Go.RowKit

/-- A row of bytes that may be handed on. -/
def PB (w : World) (a : Option Addr) (l c : Nat) (zs : List Int) : Prop := Byts w a l c zs ∧ (a = none → c = 0)
theorem PB.below {w w' : World} {a : Option Addr} {l c : Nat} {zs : List Int} (h : PB w a l c zs) (hb : Below w.heap.size w w') : PB w' a l c zs := ⟨h.1.below hb, h.2⟩
theorem bdrX (w : World) : Below w.heap.size w w.drew := ⟨rfl, rfl, rfl, Nat.le_refl _, fun _ _ => rfl⟩
theorem PB.drew {w : World} {a : Option Addr} {l c : Nat} {zs : List Int} (h : PB w a l c zs) : PB w.drew a l c zs := h.below (bdrX w)
theorem PB.grow {w : World} {a : Option Addr} {l c : Nat} {zs : List Int} (h : PB w a l c zs) (o : Obj) : PB (w.alloc o) a l c zs := h.below (balloc w o)
theorem PB.lit1 (w : World) (x : Int) (hx : 0 ≤ x ∧ x < 256) : PB (w.alloc (.cells #[.int .u8 x] 5)) (some ⟨w.heap.size, 0, none⟩) 1 1 [x] := by
  refine ⟨⟨rfl, Nat.le_refl _, by unfold maxLen; omega, fun _ => ⟨w.heap.size, 0, rfl, fun i hi => ?_⟩, fun v hv => ?_⟩, fun e => by cases e⟩
  · obtain rfl : i = 0 := by omega
    simp
  · simp at hv
    rw [hv]; exact hx
theorem bdrX' {V w : World} (h : Below V.heap.size V w) : Below V.heap.size V w.drew := ⟨h.os, h.tape, h.output, h.size, h.block⟩
theorem bgrX {V w : World} (h : Below V.heap.size V w) (o : Obj) : Below V.heap.size V (w.alloc o) := h.alloc h.size o
theorem BOwn.base {w : World} {b b' : Nat} {v : Value} {zs : List Int} (h : BOwn w b v zs) (hb : b' ≤ b) : BOwn w b' v zs := by
  obtain ⟨h1, h2 | ⟨g, cap, cur, h2, h3, h4⟩⟩ := h
  · exact ⟨h1, .inl h2⟩
  · exact ⟨h1, .inr ⟨g, cap, cur, h2, Nat.le_trans hb h3, h4⟩⟩
theorem PB.own {w : World} {base : Nat} {v : Value} {zs : List Int} (h : BOwn w base v zs) (hd : Digs 256 zs) : ∃ a l c, v = .slice a l c ∧ PB w a l c zs := by
  obtain ⟨a, n, cp, rfl, hB, -, nn⟩ := h.fresh hd
  exact ⟨a, n, cp, rfl, hB, nil9 nn⟩
/-- A frame's variable keeps its four cells. -/
def FourC (w : World) (G : Nat) (d : Bool) (s a : Int) (b : Option Addr) (lb cb : Nat) : Prop := w.cell? ⟨G, 0, none⟩ = some (.bool d) ∧ w.cell? ⟨G, 1, none⟩ = some (.int .i64 s) ∧ w.cell? ⟨G, 2, none⟩ = some (.int .i64 a) ∧ w.cell? ⟨G, 3, none⟩ = some (.slice b lb cb)

theorem cell4_0 (w : World) (x y z u : Value) (t : TypeId) : (w.alloc (.cells #[x, y, z, u] t)).cell? ⟨w.heap.size, 0, none⟩ = some x := by simp
theorem cell4_1 (w : World) (x y z u : Value) (t : TypeId) : (w.alloc (.cells #[x, y, z, u] t)).cell? ⟨w.heap.size, 1, none⟩ = some y := by simp
theorem cell4_2 (w : World) (x y z u : Value) (t : TypeId) : (w.alloc (.cells #[x, y, z, u] t)).cell? ⟨w.heap.size, 2, none⟩ = some z := by simp
theorem cell4_3 (w : World) (x y z u : Value) (t : TypeId) : (w.alloc (.cells #[x, y, z, u] t)).cell? ⟨w.heap.size, 3, none⟩ = some u := by simp

theorem cell4s_0 (w : World) (o : Obj) (x y z u : Value) (t : TypeId) : ((w.alloc o).alloc (.cells #[x, y, z, u] t)).cell? ⟨w.heap.size + 1, 0, none⟩ = some x := by have := cell4_0 (w.alloc o) x y z u t; rwa [World.size_alloc] at this
theorem cell4s_1 (w : World) (o : Obj) (x y z u : Value) (t : TypeId) : ((w.alloc o).alloc (.cells #[x, y, z, u] t)).cell? ⟨w.heap.size + 1, 1, none⟩ = some y := by have := cell4_1 (w.alloc o) x y z u t; rwa [World.size_alloc] at this
theorem cell4s_2 (w : World) (o : Obj) (x y z u : Value) (t : TypeId) : ((w.alloc o).alloc (.cells #[x, y, z, u] t)).cell? ⟨w.heap.size + 1, 2, none⟩ = some z := by have := cell4_2 (w.alloc o) x y z u t; rwa [World.size_alloc] at this
theorem cell4s_3 (w : World) (o : Obj) (x y z u : Value) (t : TypeId) : ((w.alloc o).alloc (.cells #[x, y, z, u] t)).cell? ⟨w.heap.size + 1, 3, none⟩ = some u := by have := cell4_3 (w.alloc o) x y z u t; rwa [World.size_alloc] at this
set_option maxRecDepth 20000 in
set_option maxHeartbeats 6400000 in
theorem f10enc_any (d : Bool) (s a : Int) (b : Option Addr) (lb cb : Nat) (body : List Int) (w : World) (h : Byts w b lb cb body) (hnil : b = none → cb = 0) :
    Calls Try.prog 42 #[.agg #[.bool d, .int .i64 s, .int .i64 a, .slice b lb cb]] w fun e w' => EncT d s a body w e w' := by
  have hl := h.hlen
  have hmax := h.hmax
  have hcap := h.hcap
  unfold maxLen at hmax
  have hV := balloc w (.cells #[.bool d, .int .i64 s, .int .i64 a, .slice b lb cb] 65)
  have c0 : (w.alloc (.cells #[.bool d, .int .i64 s, .int .i64 a, .slice b lb cb] 65)).cell? ⟨w.heap.size, 0, none⟩ = some (.bool d) := by simp
  have c1 : (w.alloc (.cells #[.bool d, .int .i64 s, .int .i64 a, .slice b lb cb] 65)).cell? ⟨w.heap.size, 1, none⟩ = some (.int .i64 s) := by simp
  have c2 : (w.alloc (.cells #[.bool d, .int .i64 s, .int .i64 a, .slice b lb cb] 65)).cell? ⟨w.heap.size, 2, none⟩ = some (.int .i64 a) := by simp
  have c3 : (w.alloc (.cells #[.bool d, .int .i64 s, .int .i64 a, .slice b lb cb] 65)).cell? ⟨w.heap.size, 3, none⟩ = some (.slice b lb cb) := by simp
  replace h := h.below hV
  have HL : Hid (body.length = lb) := hl
  clear hl
  go_enter Try.func42, Try.ntmps42
  go_wp2_with fail
  refine (f10may_any d s a b lb cb _ (by omega)).mono ?_
  rintro e V ⟨rfl, hb1⟩
  have hB1 := bthen hV hb1
  replace h := h.below hb1
  replace c0 := bkeep hb1 c0 rfl
  replace c1 := bkeep hb1 c1 rfl
  replace c2 := bkeep hb1 c2 rfl
  replace c3 := bkeep hb1 c3 rfl
  obtain ⟨G, hG⟩ : ∃ G, G = w.heap.size := ⟨_, rfl⟩
  have hGV : G < V.heap.size := by rw [hG]; exact Nat.lt_of_lt_of_le (by simp) hb1.size
  rw [← hG] at c0 c1 c2 c3
  rw [← hG]
  clear hV hb1 hG
  cases hr : rightFr d s a lb with
  | false =>
    have HF : Hid (ResEnc d s a body [] 1) := .inr ⟨by rw [HL.out]; exact hr, rfl, rfl⟩
    clear h c0 c1 c2 c3
    go_wp2
    go_ret2
    exact ⟨none, 0, 0, [], 1, rfl, Byts.nil _, HF.out, ⟨fun _ => rfl, fun _ e => (by cases e)⟩, hB1⟩
  | true =>
    obtain ⟨x1, x2, x3, x4, x5, -⟩ := (rightFr_iff d s a lb).1 hr
    obtain ⟨S, rfl⟩ : ∃ S : Nat, s = (S : Int) := ⟨s.toNat, by omega⟩
    obtain ⟨A, rfl⟩ : ∃ A : Nat, a = (A : Int) := ⟨a.toNat, by omega⟩
    have HR : Hid (rightFr d S A body.length = true) := by show _ = _; rw [HL.out]; exact hr
    clear hr
    obtain ⟨K, hK⟩ : ∃ K : Int, K = if d then 1 else 0 := ⟨_, rfl⟩
    have hK2 : 0 ≤ K ∧ K < 256 := by rw [hK]; cases d <;> simp
    obtain ⟨cs, kS⟩ := code_any (n := S) (by omega)
    obtain ⟨ca, kA⟩ := code_any (n := A) (by omega)
    obtain ⟨cc, kB⟩ := code_any (n := body.length) (by have := HL.out; omega)
    obtain ⟨M, hM⟩ : ∃ M, M = K :: (cs ++ (ca ++ (cc ++ body))) := ⟨_, rfl⟩
    have HK : Hid (IsHead d S A body M) := ⟨cs, ca, cc, by simpa using kS, by simpa using kA, kB, by rw [hM, hK]⟩
    have dgb := h.digs
    have dgm := HK.out.digs dgb
    have hlen := (HK.out.len HR.out).1
    have HLM : Hid (M.length ≤ 1048607) := by show _ ≤ _; have := HL.out; omega
    have HRB : Hid (Below V.heap.size V V) := Below.refl _ _
    have KEEP : ∀ {wx w' : World}, Below V.heap.size V wx → Below wx.heap.size wx w' → (w'.cell? ⟨G, 0, none⟩ = some (.bool d) ∧ w'.cell? ⟨G, 1, none⟩ = some (.int .i64 S) ∧ w'.cell? ⟨G, 2, none⟩ = some (.int .i64 A) ∧ w'.cell? ⟨G, 3, none⟩ = some (.slice b lb cb)) ∧ Hid (Below wx.heap.size wx w') ∧ Hid (Below V.heap.size V w') := fun hx hb => ⟨⟨bkeep (bthen hx hb) c0 rfl, bkeep (bthen hx hb) c1 rfl, bkeep (bthen hx hb) c2 rfl, bkeep (bthen hx hb) c3 rfl⟩, hb, bthen hx hb⟩
    have HKi : Hid (∀ wx : World, Below V.heap.size V wx → Calls Try.prog 57 #[.agg #[.bool d, .int .i64 S, .int .i64 A, .slice b lb cb]] wx fun e w' => e = .returned (.int .u8 K) ∧ (w'.cell? ⟨G, 0, none⟩ = some (.bool d) ∧ w'.cell? ⟨G, 1, none⟩ = some (.int .i64 S) ∧ w'.cell? ⟨G, 2, none⟩ = some (.int .i64 A) ∧ w'.cell? ⟨G, 3, none⟩ = some (.slice b lb cb)) ∧ Hid (Below wx.heap.size wx w') ∧ Hid (Below V.heap.size V w')) := by
      intro wx hbx
      refine (f10kind_any d S A b lb cb wx).mono ?_
      rintro e w' ⟨rfl, hb⟩
      exact ⟨by rw [hK], KEEP hbx hb⟩
    have HNs : Hid (∀ wx : World, Below V.heap.size V wx → Calls Try.prog 58 #[.int .u64 S] wx fun e w' => ∃ va vl vc, e = .returned (.slice va vl vc) ∧ Hid (PB w' va vl vc cs) ∧ (w'.cell? ⟨G, 0, none⟩ = some (.bool d) ∧ w'.cell? ⟨G, 1, none⟩ = some (.int .i64 S) ∧ w'.cell? ⟨G, 2, none⟩ = some (.int .i64 A) ∧ w'.cell? ⟨G, 3, none⟩ = some (.slice b lb cb)) ∧ Hid (Below wx.heap.size wx w') ∧ Hid (Below V.heap.size V w')) := by
      intro wx hbx
      refine (c9number_any S wx (by omega)).mono ?_
      rintro e w' ⟨v, c, rfl, ho, hc, hb⟩
      obtain ⟨va, vl, vc, rfl, hp⟩ := PB.own ho hc.digs
      rw [hc.bytes kS] at hp
      exact ⟨_, _, _, rfl, hp, KEEP hbx hb⟩
    have HNa : Hid (∀ wx : World, Below V.heap.size V wx → Calls Try.prog 58 #[.int .u64 A] wx fun e w' => ∃ va vl vc, e = .returned (.slice va vl vc) ∧ Hid (PB w' va vl vc ca) ∧ (w'.cell? ⟨G, 0, none⟩ = some (.bool d) ∧ w'.cell? ⟨G, 1, none⟩ = some (.int .i64 S) ∧ w'.cell? ⟨G, 2, none⟩ = some (.int .i64 A) ∧ w'.cell? ⟨G, 3, none⟩ = some (.slice b lb cb)) ∧ Hid (Below wx.heap.size wx w') ∧ Hid (Below V.heap.size V w')) := by
      intro wx hbx
      refine (c9number_any A wx (by omega)).mono ?_
      rintro e w' ⟨v, c, rfl, ho, hc, hb⟩
      obtain ⟨va, vl, vc, rfl, hp⟩ := PB.own ho hc.digs
      rw [hc.bytes kA] at hp
      exact ⟨_, _, _, rfl, hp, KEEP hbx hb⟩
    have HBy : Hid (∀ wx : World, Below V.heap.size V wx → Calls Try.prog 59 #[.slice b lb cb] wx fun e w' => ∃ va vl vc, e = .returned (.slice va vl vc) ∧ Hid (PB w' va vl vc (cc ++ body)) ∧ (w'.cell? ⟨G, 0, none⟩ = some (.bool d) ∧ w'.cell? ⟨G, 1, none⟩ = some (.int .i64 S) ∧ w'.cell? ⟨G, 2, none⟩ = some (.int .i64 A) ∧ w'.cell? ⟨G, 3, none⟩ = some (.slice b lb cb)) ∧ Hid (Below wx.heap.size wx w') ∧ Hid (Below V.heap.size V w')) := by
      intro wx hbx
      refine (c9bytes_any b lb cb body wx (h.below hbx) hnil (by omega)).mono ?_
      rintro e w' ⟨v, c, rfl, ho, hc, hb⟩
      obtain ⟨va, vl, vc, rfl, hp⟩ := PB.own ho (hc.digs.app9 dgb)
      rw [hc.bytes kB] at hp
      exact ⟨_, _, _, rfl, hp, KEEP hbx hb⟩
    have HCo : Hid (∀ (wx : World) (g : Nat) (a1 : Option Addr) (l1 k1 : Nat) (a2 : Option Addr) (l2 k2 : Nat) (a3 : Option Addr) (l3 k3 : Nat), (∃ a0 l0 k0, wx.cell? ⟨g, 0, none⟩ = some (.slice a0 l0 k0) ∧ PB wx a0 l0 k0 [K]) → wx.cell? ⟨g, 1, none⟩ = some (.slice a1 l1 k1) → wx.cell? ⟨g, 2, none⟩ = some (.slice a2 l2 k2) → wx.cell? ⟨g, 3, none⟩ = some (.slice a3 l3 k3) → PB wx a1 l1 k1 cs → PB wx a2 l2 k2 ca → PB wx a3 l3 k3 (cc ++ body) → Below V.heap.size V wx → Calls Try.prog 56 #[.slice (some ⟨g, 0, none⟩) 4 4] wx fun e w' => ∃ v, e = .returned v ∧ Hid (BOwn w' V.heap.size v M) ∧ (w'.cell? ⟨G, 0, none⟩ = some (.bool d) ∧ w'.cell? ⟨G, 1, none⟩ = some (.int .i64 S) ∧ w'.cell? ⟨G, 2, none⟩ = some (.int .i64 A) ∧ w'.cell? ⟨G, 3, none⟩ = some (.slice b lb cb)) ∧ Hid (Below wx.heap.size wx w') ∧ Hid (Below V.heap.size V w')) := by
      rintro wx g a1 l1 k1 a2 l2 k2 a3 l3 k3 ⟨a0, l0, k0, q0, p0⟩ q1 q2 q3 p1 p2 p3 hbx
      have hcat : catL [(a0, l0, k0, [K]), (a1, l1, k1, cs), (a2, l2, k2, ca), (a3, l3, k3, cc ++ body)] = M := by rw [hM]; simp [catL]
      have hP : Parts10 wx g [(a0, l0, k0, [K]), (a1, l1, k1, cs), (a2, l2, k2, ca), (a3, l3, k3, cc ++ body)] := by
        intro i p hp
        match i, hp with
        | 0, hp => cases hp; exact ⟨q0, p0.1, p0.2⟩
        | 1, hp => cases hp; exact ⟨q1, p1.1, p1.2⟩
        | 2, hp => cases hp; exact ⟨q2, p2.1, p2.2⟩
        | 3, hp => cases hp; exact ⟨q3, p3.1, p3.2⟩
        | i + 4, hp => simp at hp
      refine (concat10_any g 4 _ 4 wx rfl (Nat.le_refl _) (by decide) hP (by rw [hcat, hM]; simp) (by rw [hcat]; have := HLM.out; omega)).mono ?_
      rintro e w' ⟨v, rfl, ho, hb⟩
      rw [hcat] at ho
      exact ⟨v, rfl, ho.base hbx.size, KEEP hbx hb⟩
    clear KEEP kS kA kB hM hlen
    have hwS : IntKind.u64.wrap (S : Int) = S := by simp [IntKind.wrap, IntKind.signed, IntKind.bits]; omega
    have hwA : IntKind.u64.wrap (A : Int) = A := by simp [IntKind.wrap, IntKind.signed, IntKind.bits]; omega
    go_wp2_with fail
    go_cut [4] (fun pv wx => BOwn wx V.heap.size pv M ∧ Below V.heap.size V wx)
    case first =>
      clear h hnil hB1 dgb dgm HK HR HL HLM hK
      have ne0 := World.new_ne V ⟨G, 0, none⟩ c0
      go_region_held3 (fun w' => w'.cell? ⟨G, 0, none⟩ = some (.bool d) ∧ w'.cell? ⟨G, 1, none⟩ = some (.int .i64 S) ∧ w'.cell? ⟨G, 2, none⟩ = some (.int .i64 A) ∧ w'.cell? ⟨G, 3, none⟩ = some (.slice b lb cb)) (first | go_keep | exact ⟨n70, n71, n72, n73⟩ | exact ⟨n60, n61, n62, n63⟩ | exact ⟨n50, n51, n52, n53⟩ | exact ⟨n40, n41, n42, n43⟩ | exact ⟨n30, n31, n32, n33⟩)
        (first
        | (go_at_call 57; with_reducible refine Calls.mono (HKi.out _ ?_) ?_; (focus (repeat (first | exact HRB.out | exact hB3.out | exact hB4.out | exact hB5.out | exact hB6.out | refine bdrX' ?_ | refine bgrX ?_ _))); rintro e w3 ⟨rfl, ⟨n30, n31, n32, n33⟩, hb3, hB3⟩; have ne3 := World.new_ne w3 ⟨G, 0, none⟩ n30)
        | (go_at_call 58; with_reducible refine Calls.mono (HNs.out _ ?_) ?_; (focus (repeat (first | exact HRB.out | exact hB3.out | exact hB4.out | exact hB5.out | exact hB6.out | refine bdrX' ?_ | refine bgrX ?_ _))); rintro e w4 ⟨sa, sn, sc, rfl, hP4, ⟨n40, n41, n42, n43⟩, hb4, hB4⟩; have ne4 := World.new_ne w4 ⟨G, 0, none⟩ n40)
        | (go_at_call 58; with_reducible refine Calls.mono (HNa.out _ ?_) ?_; (focus (repeat (first | exact HRB.out | exact hB3.out | exact hB4.out | exact hB5.out | exact hB6.out | refine bdrX' ?_ | refine bgrX ?_ _))); rintro e w5 ⟨ta, tn, tc, rfl, hP5, ⟨n50, n51, n52, n53⟩, hb5, hB5⟩; have ne5 := World.new_ne w5 ⟨G, 0, none⟩ n50)
        | (go_at_call 59; with_reducible refine Calls.mono (HBy.out _ ?_) ?_; (focus (repeat (first | exact HRB.out | exact hB3.out | exact hB4.out | exact hB5.out | exact hB6.out | refine bdrX' ?_ | refine bgrX ?_ _))); rintro e w6 ⟨ua, un, uc, rfl, hP6, ⟨n60, n61, n62, n63⟩, hb6, hB6⟩; have ne6 := World.new_ne w6 ⟨G, 0, none⟩ n60)
        | (go_at_call 56; with_reducible refine Calls.mono (HCo.out _ _ sa sn sc ta tn tc ua un uc ?_ ?_ ?_ ?_ ?_ ?_ ?_ ?_) ?_; (focus (first | refine ⟨_, _, _, cell4_0 _ _ _ _ _ _, ?_⟩ | refine ⟨_, _, _, cell4s_0 _ _ _ _ _ _ _, ?_⟩); (focus (repeat (first | with_reducible exact PB.lit1 _ _ hK2 | with_reducible exact hP4.out | with_reducible exact hP5.out | with_reducible exact hP6.out | with_reducible refine PB.drew ?_ | with_reducible refine PB.grow ?_ _ | with_reducible refine PB.below ?_ hb4.out | with_reducible refine PB.below ?_ hb5.out | with_reducible refine PB.below ?_ hb6.out)))); (focus (first | exact cell4_1 _ _ _ _ _ _ | exact cell4s_1 _ _ _ _ _ _ _)); (focus (first | exact cell4_2 _ _ _ _ _ _ | exact cell4s_2 _ _ _ _ _ _ _)); (focus (first | exact cell4_3 _ _ _ _ _ _ | exact cell4s_3 _ _ _ _ _ _ _)); (focus (repeat (first | with_reducible exact PB.lit1 _ _ hK2 | with_reducible exact hP4.out | with_reducible exact hP5.out | with_reducible exact hP6.out | with_reducible refine PB.drew ?_ | with_reducible refine PB.grow ?_ _ | with_reducible refine PB.below ?_ hb4.out | with_reducible refine PB.below ?_ hb5.out | with_reducible refine PB.below ?_ hb6.out))); (focus (repeat (first | with_reducible exact PB.lit1 _ _ hK2 | with_reducible exact hP4.out | with_reducible exact hP5.out | with_reducible exact hP6.out | with_reducible refine PB.drew ?_ | with_reducible refine PB.grow ?_ _ | with_reducible refine PB.below ?_ hb4.out | with_reducible refine PB.below ?_ hb5.out | with_reducible refine PB.below ?_ hb6.out))); (focus (repeat (first | with_reducible exact PB.lit1 _ _ hK2 | with_reducible exact hP4.out | with_reducible exact hP5.out | with_reducible exact hP6.out | with_reducible refine PB.drew ?_ | with_reducible refine PB.grow ?_ _ | with_reducible refine PB.below ?_ hb4.out | with_reducible refine PB.below ?_ hb5.out | with_reducible refine PB.below ?_ hb6.out))); (focus (repeat (first | exact HRB.out | exact hB3.out | exact hB4.out | exact hB5.out | exact hB6.out | refine bdrX' ?_ | refine bgrX ?_ _))); rintro e w7 ⟨v7, rfl, hO7, ⟨n70, n71, n72, n73⟩, hb7, hB7⟩))
      all_goals
        clear HKi HNs HNa HBy HCo HRB
        go_wp2_with fail
        go_meet
        case rel => exact ⟨hO7.out, hB7.out⟩
    case rest =>
      obtain ⟨hO, hb2⟩ := hcut
      clear HKi HNs HNa HBy HCo HRB h c0 c1 c2 c3 hwS hwA x1 x2 x3 x4 x5 hcap hmax
      have HE : Hid (IsEnc d S A body (M ++ be4 (sumC M))) := ⟨M, HK.out, rfl⟩
      have dg10 := HE.out.digs dgb
      obtain ⟨oa, on, oc, hv, hOb, -, nnO⟩ := hO.fresh dgm
      have HO : Hid (BOwn wc V.heap.size (.slice oa on oc) M) := by show BOwn _ _ _ _; rw [← hv]; exact hO
      subst hv
      clear hO
      go_wp2_with fail
      refine (f10four_any oa on oc M _ hOb).mono ?_
      rintro e w3 ⟨q, rfl, h4, hb3⟩
      have hO3 := own9 HO.out hb3
      have hB3 := bthen hb2 hb3
      clear HO hOb nnO hb2 hb3
      go_wp2_with (at_builtin; refine wpList_appBW _ rfl _ _ 31 rfl Try.underlying31 V.heap.size _ _ rfl hO3 (some q) 4 4 _ rfl h4 (fun e => by cases e) ?c1 V ?c2 hB3 ?_)
      case c1 => have := HLM.out; omega
      case c2 => exact hB3.size
      rintro v10 w10 own10 b10 -
      obtain ⟨ra, rn, rc, rfl, hZ, qbZ, nnZ⟩ := own10.fresh dg10
      have hBB := bthen hB1 b10
      have HZ : Hid (Byts w10 ra rn rc (M ++ be4 (sumC M)) ∧ ((ra = none → rc = 0) ∧ ∀ ad, ra = some ad → 0 < rn → w.heap.size ≤ ad.block ∧ IsB w10 ad.block)) := ⟨hZ, nil9 nnZ, fun ad e h0 => by
        obtain ⟨q, e2, hq, cur, hqc, -⟩ := qbZ h0
        rw [e] at e2
        cases e2
        exact ⟨Nat.le_trans hB1.size hq, cur, hqc⟩⟩
      clear hO3 h4 own10 b10 hZ nnZ qbZ dg10 dgm hB3
      go_wp2
      go_ret2
      exact ⟨ra, rn, rc, _, 0, rfl, HZ.out.1, .inl ⟨HR.out, HE.out, rfl⟩, HZ.out.2, hBB⟩
theorem enc_ok10 : EncOk10 := fun d s a b lb cb body w h hn _ _ => f10enc_any d s a b lb cb body w h hn
end Go.Proofs.Ytjokbikelklaiaa

namespace Go.Proofs.Ytjokbikelklaiaa
open Go.RowKit

theorem code_small {b : Nat} (h : b < 128) : IsCode [(b : Int)] b := ⟨rfl, by omega⟩
theorem ResNum.ok {L : List Int} {most n : Nat} {R : List Int} (h : ResNum L most n 0 R) : ∃ c, IsCode c n ∧ L = c ++ R ∧ n ≤ most := by
  obtain ⟨m, k, h1, ⟨_, _, h3, _⟩ | ⟨h2, rfl, _, rfl⟩⟩ := h
  · cases h3
  · rcases h1 with ⟨_, _, h4⟩ | ⟨hk, _, _⟩
    · exact ⟨_, h4, (List.take_append_drop _ _).symm, by omega⟩
    · exact absurd (.inl hk) h2
theorem ResBytR.ok {L : List Int} {most : Int} {ys R : List Int} (h : ResBytR L most ys 0 R) : ∃ c, IsCode c ys.length ∧ L = c ++ (ys ++ R) ∧ (ys.length : Int) ≤ most := by
  obtain ⟨m, k, h1, ⟨_, _, h3, _⟩ | ⟨h2, rfl, _, rfl⟩⟩ := h
  · cases h3
  · have hl : ((L.drop k).take m).length = m := by simp; omega
    rcases h1 with ⟨_, _, h4⟩ | ⟨hk, _, _⟩
    · rw [hl]
      refine ⟨_, h4, ?_, by omega⟩
      rw [← List.drop_drop, List.take_append_drop, List.take_append_drop]
    · exact absurd (.inl hk) h2
/-- The parts of a frame are read as the frame's. -/
theorem head_read {d : Bool} {s a : Int} {body L : List Int} (h : IsHead d s a body L) (hr : rightFr d s a body.length = true) {n0 n n2 : Nat} {e0 e e2 e3 : Int} {R0 R1 R2 R3 ys : List Int} (h0 : ResNum L 1 n0 e0 R0) (h1 : ResNum R0 1073741824 n e R1) (h2 : ResNum R1 1073741824 n2 e2 R2) (h3 : ResBytR R2 1048576 ys e3 R3) :
    ((n0 == 1) = d ∧ (n : Int) = s ∧ (n2 : Int) = a ∧ ys = body) ∧ (e0 = 0 ∧ e = 0 ∧ e2 = 0 ∧ e3 = 0) ∧ R3 = [] := by
  obtain ⟨x1, x2, x3, x4, x5, _⟩ := (rightFr_iff _ _ _ _).1 hr
  obtain ⟨cs, ca, cb, k1, k2, k3, rfl⟩ := h
  have kd : IsCode [(if d then 1 else 0 : Int)] (if d then 1 else 0) := by cases d <;> exact code_small (by decide)
  obtain ⟨rfl, rfl, rfl⟩ := h0.unique (read_num (c := [(if d then 1 else 0 : Int)]) (R := cs ++ (ca ++ (cb ++ body))) kd (by cases d <;> simp) (by cases d <;> simp))
  obtain ⟨rfl, rfl, rfl⟩ := h1.unique (read_num (R := ca ++ (cb ++ body)) k1 (by omega) (by omega))
  obtain ⟨rfl, rfl, rfl⟩ := h2.unique (read_num (R := cb ++ body) k2 (by omega) (by omega))
  obtain ⟨rfl, rfl, rfl⟩ := h3.unique (read_byt k3 (by omega) (by omega))
  exact ⟨⟨by cases d <;> rfl, by omega, by omega, rfl⟩, ⟨rfl, rfl, rfl, rfl⟩, rfl⟩
/-- What is read without a fault is a frame's parts. -/
theorem read_head {L : List Int} {n0 n n2 : Nat} {R0 R1 R2 ys : List Int} (h0 : ResNum L 1 n0 0 R0) (h1 : ResNum R0 1073741824 n 0 R1) (h2 : ResNum R1 1073741824 n2 0 R2) (h3 : ResBytR R2 1048576 ys 0 []) : IsHead (n0 == 1) n n2 ys L := by
  obtain ⟨c0, k0, rfl, m0⟩ := h0.ok
  obtain ⟨c1, k1, rfl, m1⟩ := h1.ok
  obtain ⟨c2, k2, rfl, m2⟩ := h2.ok
  obtain ⟨c3, k3, rfl, m3⟩ := h3.ok
  refine ⟨c1, c2, c3, by simpa using k1, by simpa using k2, k3, ?_⟩
  rw [k0.bytes (code_small (by omega)), List.append_nil]
  have : n0 = 0 ∨ n0 = 1 := by omega
  rcases this with rfl | rfl <;> rfl

theorem cell_putF {w : World} {G k j : Nat} (h : G ≠ k) (x y z u : Value) : ((((w.setCell ⟨G, 0, none⟩ x).setCell ⟨G, 1, none⟩ y).setCell ⟨G, 2, none⟩ z).setCell ⟨G, 3, none⟩ u).cell? ⟨k, j, none⟩ = w.cell? ⟨k, j, none⟩ := by
  rw [World.cell?_setCell_other, World.cell?_setCell_other, World.cell?_setCell_other, World.cell?_setCell_other] <;> (intro e; cases e; exact h rfl)
/-- What read makes. -/
def ReadT (L : List Int) (w : World) (g : Nat) (e : Ending) (w' : World) : Prop :=
  ∃ d s a p l c ys ok, e = .returned (.tuple #[.agg #[.bool d, .int .i64 s, .int .i64 a, .slice p l c], .bool ok]) ∧ Byts w' p l c ys ∧ ((p = none → c = 0) ∧ ∀ ad, p = some ad → 0 < l → w.heap.size ≤ ad.block ∧ IsB w' ad.block) ∧ (ok = true → rightFr d s a ys.length = true ∧ IsHead d s a ys L) ∧ (ok = false → ∀ d s a body, rightFr d s a body.length = true → ¬ IsHead d s a body L) ∧ w.grownBy w' (some g)
theorem grown_putF {w w' : World} {g G : Nat} (h : w.grownBy w' (some g)) (hG : w.heap.size ≤ G) (x y z u : Value) : w.grownBy ((((w'.setCell ⟨G, 0, none⟩ x).setCell ⟨G, 1, none⟩ y).setCell ⟨G, 2, none⟩ z).setCell ⟨G, 3, none⟩ u) (some g) := by
  have hb := putF_below (Below.refl w.heap.size w') hG x y z u
  refine ⟨hb.os.trans h.os, hb.tape.trans h.tape, hb.output.trans h.output, Nat.le_trans h.size hb.size, fun k hk hne => ?_⟩
  rw [hb.block k hk, h.block k hk hne]
theorem CellF.grown {w w' : World} {G g : Nat} {d : Bool} {s a : Int} {p : Option Addr} {l c : Nat} (h : CellF w G d s a p l c) (hg : w.grownBy w' (some g)) (hne : G ≠ g) : CellF w' G d s a p l c := by
  have hb := hg.block G h.lt (fun e => hne (by simpa using e))
  exact ⟨(World.cell?_of_block (a := ⟨G, 0, none⟩) hb).trans h.c0, (World.cell?_of_block (a := ⟨G, 1, none⟩) hb).trans h.c1, (World.cell?_of_block (a := ⟨G, 2, none⟩) hb).trans h.c2, (World.cell?_of_block (a := ⟨G, 3, none⟩) hb).trans h.c3, (World.frozen?_of_block (a := ⟨G, 0, none⟩) hb).trans h.f0, (World.frozen?_of_block (a := ⟨G, 1, none⟩) hb).trans h.f1, (World.frozen?_of_block (a := ⟨G, 2, none⟩) hb).trans h.f2, (World.frozen?_of_block (a := ⟨G, 3, none⟩) hb).trans h.f3⟩
theorem grown_on {w w1 w2 : World} {g : Nat} (h : w.grownBy w1 (some g)) (h2 : w1.grownBy w2 (some g)) : w.grownBy w2 (some g) := ⟨h2.os.trans h.os, h2.tape.trans h.tape, h2.output.trans h.output, Nat.le_trans h.size h2.size, fun k hk hne => (h2.block k (Nat.lt_of_lt_of_le hk h.size) hne).trans (h.block k hk hne)⟩
theorem grown_bel {w w1 w2 : World} {g : Nat} (h : w.grownBy w1 (some g)) (h2 : Below w1.heap.size w1 w2) : w.grownBy w2 (some g) := ⟨h2.os.trans h.os, h2.tape.trans h.tape, h2.output.trans h.output, Nat.le_trans h.size h2.size, fun k hk hne => (h2.block k (Nat.lt_of_lt_of_le hk h.size)).trans (h.block k hk hne)⟩

set_option maxRecDepth 20000 in
set_option maxHeartbeats 6400000 in
theorem f10read_any (g : Nat) (L : List Int) (w : World) (h : CRdAt w g L) :
    Calls Try.prog 49 #[.pointer (some ⟨g, 0, none⟩)] w fun e w' => ReadT L w g e w' := by
  have hV := balloc w (.cells #[.bool false, .int .i64 0, .int .i64 0, .slice none 0 0] 65)
  have hR := CellF.new w false 0 0 none 0 0
  have hgl := h.lt
  replace h := h.below hV
  obtain ⟨V, hVe⟩ : ∃ V, V = w.alloc (.cells #[.bool false, .int .i64 0, .int .i64 0, .slice none 0 0] 65) := ⟨_, rfl⟩
  have HVe : Hid (V = w.alloc (.cells #[.bool false, .int .i64 0, .int .i64 0, .slice none 0 0] 65)) := hVe
  rw [← hVe] at hV hR h
  clear hVe
  go_enter Try.func49, Try.ntmps49
  go_wp2_with fail
  rw [← HVe.out]
  obtain ⟨G, hG⟩ : ∃ G, G = w.heap.size := ⟨_, rfl⟩
  rw [← hG] at hR
  rw [← hG]
  have HG : Hid (w.heap.size ≤ G) := by show _ ≤ _; rw [hG]; exact Nat.le_refl _
  have hne : G ≠ g := by omega
  clear HVe hG
  refine (c9rnum_any g L 1 _ h).mono ?_
  rintro e w0 ⟨n0, e0, R0, rfl, hr0, hA0, hgr0⟩
  have hg0 := grown_on (grown_of_below hV (some g)) hgr0
  have hR0 := hR.grown hgr0 hne
  have HR0 : Hid (ResNum L 1 n0 e0 R0) := hr0
  have hn0 := hr0.le
  clear hr0 hgr0 hR h hV
  go_wp2_with fail
  refine (c9rnum_any g R0 1073741824 _ hA0).mono ?_
  rintro e w1 ⟨n1, e1, R1, rfl, hr1, hA1, hgr1⟩
  have hg1 := grown_on hg0 hgr1
  have hR1 := hR0.grown hgr1 hne
  have HR1 : Hid (ResNum R0 1073741824 n1 e1 R1) := hr1
  have hn1 := hr1.le
  clear hr1 hgr1 hR0 hA0 hg0
  go_wp2_with fail
  refine (c9rnum_any g R1 1073741824 _ hA1).mono ?_
  rintro e w2 ⟨n2, e2, R2, rfl, hr2, hA2, hgr2⟩
  have hg2 := grown_on hg1 hgr2
  have hR2 := hR1.grown hgr2 hne
  have HR2 : Hid (ResNum R1 1073741824 n2 e2 R2) := hr2
  have hn2 := hr2.le
  clear hr2 hgr2 hR1 hA1 hg1
  go_wp2_with fail
  refine (c9rbyt_any g R2 1048576 _ hA2 (by decide)).mono ?_
  rintro e w3 ⟨ya, yl, yc, ys, e3, R3, rfl, ⟨hy, yn, yf⟩, hr3, hA3, hgr3⟩
  have hg3 := grown_on hg2 hgr3
  have hR3 := hR2.grown hgr3 hne
  have HR3 : Hid (ResBytR R2 1048576 ys e3 R3) := hr3
  have HYF : Hid (∀ ad, ya = some ad → 0 < yl → w.heap.size ≤ ad.block) := fun ad e h0 => Nat.le_trans hg2.size (yf ad e h0).1
  have HI3 : Hid (IsBs w3 ya yl) := fun ad e h0 => (yf ad e h0).2
  have HYL : Hid (ys.length = yl) := hy.hlen
  clear hr3 hgr3 hR2 hA2 hg2 yf
  have ALL : Hid (∀ d s a body, rightFr d s a body.length = true → IsHead d s a body L → ((n0 == 1) = d ∧ (n1 : Int) = s ∧ (n2 : Int) = a ∧ ys = body) ∧ (e0 = 0 ∧ e1 = 0 ∧ e2 = 0 ∧ e3 = 0) ∧ R3 = []) := fun d s a body hr he => head_read he hr HR0.out HR1.out HR2.out HR3.out
  have BAD : ∀ wx : World, w.grownBy wx (some g) → (∀ d s a body, rightFr d s a body.length = true → ¬ IsHead d s a body L) → Hid (ReadT L w g (.returned (.tuple #[.agg #[.bool false, .int .i64 0, .int .i64 0, .slice none 0 0], .bool false])) ((((wx.setCell ⟨G, 0, none⟩ (.bool false)).setCell ⟨G, 1, none⟩ (.int .i64 0)).setCell ⟨G, 2, none⟩ (.int .i64 0)).setCell ⟨G, 3, none⟩ (.slice none 0 0))) := fun wx hb hn => ⟨false, 0, 0, none, 0, 0, [], false, rfl, Byts.nil _, ⟨fun _ => rfl, fun _ e => (by cases e)⟩, fun e => (by cases e), fun _ => hn, grown_putF hb HG.out _ _ _ _⟩
  obtain ⟨r0, r1, r2, r3, f0, f1, f2, f3⟩ := hR3
  have hRc : CellF w3 G false 0 0 none 0 0 := ⟨r0, r1, r2, r3, f0, f1, f2, f3⟩
  by_cases z0 : e0 = 0
  case neg =>
    have HB := BAD w3 hg3 (fun d s a body hr he => z0 (ALL.out d s a body hr he).2.1.1)
    have z0d : (e0 != 0) = true := by simp [z0]
    have z0e : (e0 == 0) = false := by simp [z0]
    clear ALL BAD hg3 hA3 hy z0 hRc
    go_wp2_with fail
    exact bodyPost_ret (v := .tuple #[.agg #[.bool false, .int .i64 0, .int .i64 0, .slice none 0 0], .bool false]) (by simp [results, Try.results49, go_sem, r0, r1, r2, r3]) rfl HB.out
  subst z0
  by_cases z1 : e1 = 0
  case neg =>
    have HB := BAD w3 hg3 (fun d s a body hr he => z1 (ALL.out d s a body hr he).2.1.2.1)
    have z1d : (e1 != 0) = true := by simp [z1]
    have z1e : (e1 == 0) = false := by simp [z1]
    clear ALL BAD hg3 hA3 hy z1 hRc
    go_wp2_with fail
    exact bodyPost_ret (v := .tuple #[.agg #[.bool false, .int .i64 0, .int .i64 0, .slice none 0 0], .bool false]) (by simp [results, Try.results49, go_sem, r0, r1, r2, r3]) rfl HB.out
  subst z1
  by_cases z2 : e2 = 0
  case neg =>
    have HB := BAD w3 hg3 (fun d s a body hr he => z2 (ALL.out d s a body hr he).2.1.2.2.1)
    have z2d : (e2 != 0) = true := by simp [z2]
    have z2e : (e2 == 0) = false := by simp [z2]
    clear ALL BAD hg3 hA3 hy z2 hRc
    go_wp2_with fail
    exact bodyPost_ret (v := .tuple #[.agg #[.bool false, .int .i64 0, .int .i64 0, .slice none 0 0], .bool false]) (by simp [results, Try.results49, go_sem, r0, r1, r2, r3]) rfl HB.out
  subst z2
  by_cases z3 : e3 = 0
  case neg =>
    have HB := BAD w3 hg3 (fun d s a body hr he => z3 (ALL.out d s a body hr he).2.1.2.2.2)
    have z3d : (e3 != 0) = true := by simp [z3]
    have z3e : (e3 == 0) = false := by simp [z3]
    clear ALL BAD hg3 hA3 hy z3 hRc
    go_wp2_with fail
    exact bodyPost_ret (v := .tuple #[.agg #[.bool false, .int .i64 0, .int .i64 0, .slice none 0 0], .bool false]) (by simp [results, Try.results49, go_sem, r0, r1, r2, r3]) rfl HB.out
  subst z3
  go_wp2_with fail
  refine (c9left_any g R3 _ hA3).mono ?_
  rintro e w5 ⟨rfl, rfl⟩
  obtain ⟨t, ht⟩ : ∃ t, t = R3.length := ⟨_, rfl⟩
  rw [← ht]
  by_cases zL : R3 = []
  case neg =>
    have HB := BAD w3 hg3 (fun d s a body hr he => zL (ALL.out d s a body hr he).2.2)
    have t0 : (0 : Int) < (t : Int) := by rw [ht]; have := List.length_pos_iff.2 zL; omega
    clear ALL BAD hg3 hA3 hy hRc zL ht
    go_wp2_with fail
    exact bodyPost_ret (v := .tuple #[.agg #[.bool false, .int .i64 0, .int .i64 0, .slice none 0 0], .bool false]) (by simp [results, Try.results49, go_sem, r0, r1, r2, r3]) rfl HB.out
  obtain rfl : t = 0 := by rw [ht, zL]; rfl
  subst zL
  have HH : Hid (IsHead (n0 == 1) n1 n2 ys L) := read_head HR0.out HR1.out HR2.out HR3.out
  clear ht HR0 HR1 HR2 HR3 BAD
  obtain ⟨q, hq⟩ : ∃ q, q = (n0 == 1) := ⟨_, rfl⟩
  have hqi : ((n0 : Int) == 1) = q := by
    rw [hq]
    by_cases e : n0 = 1
    · subst e; rfl
    · have : ((n0 : Int) == 1) = false := by simp; omega
      rw [this]
      simp [e]
  rw [← hq] at HH ALL
  clear hq
  have hwS : IntKind.i64.wrap (n1 : Int) = n1 := by simp [IntKind.wrap, IntKind.signed, IntKind.bits]; omega
  have hwA : IntKind.i64.wrap (n2 : Int) = n2 := by simp [IntKind.wrap, IntKind.signed, IntKind.bits]; omega
  have hFn := balloc w3 (.cells #[.bool q, .int .i64 n1, .int .i64 n2, .slice ya yl yc] 65)
  have HF := CellF.new w3 q n1 n2 ya yl yc
  have hRW := hRc.below hFn
  have hyW := hy.below hFn
  have HIW : Hid (IsBs (w3.alloc (.cells #[.bool q, .int .i64 n1, .int .i64 n2, .slice ya yl yc] 65)) ya yl) := HI3.out.below hFn
  have hgW := grown_bel hg3 hFn
  have hGk : G < w3.heap.size := hRc.lt
  obtain ⟨W, hWe⟩ : ∃ W, W = w3.alloc (.cells #[.bool q, .int .i64 n1, .int .i64 n2, .slice ya yl yc] 65) := ⟨_, rfl⟩
  have HWe : Hid (W = w3.alloc (.cells #[.bool q, .int .i64 n1, .int .i64 n2, .slice ya yl yc] 65)) := hWe
  obtain ⟨k, hk⟩ : ∃ k, k = w3.heap.size := ⟨_, rfl⟩
  have Hk : Hid (k = w3.heap.size) := hk
  rw [← hWe] at HF hRW hyW hgW HIW
  rw [← hk] at HF hGk
  have hkW : k < W.heap.size := HF.lt
  clear hFn hRc hy HI3 hg3 r0 r1 r2 r3 f0 f1 f2 f3 hWe hk hA3
  have hyl := hyW.hcap
  have hym := hyW.hmax
  unfold maxLen at hym
  obtain ⟨B, hB⟩ : ∃ B, B = rightFr q n1 n2 yl := ⟨_, rfl⟩
  have HRB : Hid (Below W.heap.size W W) := Below.refl _ _
  have HMa : Hid (∀ wx : World, Below W.heap.size W wx → Calls Try.prog 55 #[.agg #[.bool q, .int .i64 n1, .int .i64 n2, .slice ya yl yc]] wx fun e w' => e = .returned (.bool B) ∧ (w'.cell? ⟨k, 0, none⟩ = some (.bool q) ∧ w'.cell? ⟨k, 1, none⟩ = some (.int .i64 n1) ∧ w'.cell? ⟨k, 2, none⟩ = some (.int .i64 n2) ∧ w'.cell? ⟨k, 3, none⟩ = some (.slice ya yl yc)) ∧ Hid (Below W.heap.size W w') ∧ CellF w' G false 0 0 none 0 0) := by
    intro wx hbx
    refine (f10may_any q n1 n2 ya yl yc wx (by omega)).mono ?_
    rintro e w' ⟨rfl, hb⟩
    have hb' := bthen hbx hb
    have hc := HF.below hb'
    exact ⟨by rw [hB], ⟨hc.c0, hc.c1, hc.c2, hc.c3⟩, hb', hRW.below hb'⟩
  obtain ⟨c0, c1, c2, c3, -, -, -, -⟩ := HF
  have hB2 : Hid (B = rightFr q n1 n2 ys.length) := by show _ = _; rw [HYL.out]; exact hB
  clear hB
  go_wp2_with fail
  rw [← HWe.out, ← Hk.out]
  clear HWe Hk
  have ne0 := World.new_ne W ⟨k, 0, none⟩ c0
  clear hne hgl hn0 hn1 hn2
  go_region_held3 (fun w' => w'.cell? ⟨k, 0, none⟩ = some (.bool q) ∧ w'.cell? ⟨k, 1, none⟩ = some (.int .i64 n1) ∧ w'.cell? ⟨k, 2, none⟩ = some (.int .i64 n2) ∧ w'.cell? ⟨k, 3, none⟩ = some (.slice ya yl yc)) (first | go_keep | exact ⟨m0, m1, m2, m3⟩ | exact ⟨(cell_putF (by omega) _ _ _ _).trans m0, (cell_putF (by omega) _ _ _ _).trans m1, (cell_putF (by omega) _ _ _ _).trans m2, (cell_putF (by omega) _ _ _ _).trans m3⟩)
    (first
    | (go_at_call 55; with_reducible refine Calls.mono (HMa.out _ ?_) ?_; (focus (repeat (first | exact HRB.out | refine bdrX' ?_ | refine bgrX ?_ _))); rintro e w6 ⟨rfl, ⟨m0, m1, m2, m3⟩, hb6, ⟨r0, r1, r2, r3, f0, f1, f2, f3⟩⟩))
  all_goals
    clear HMa HRB
    have hR6 : CellF w6 G false 0 0 none 0 0 := ⟨r0, r1, r2, r3, f0, f1, f2, f3⟩
    have hy6 := Byts.putF hR6 (hyW.below hb6.out) (.bool q) (.int .i64 n1) (.int .i64 n2) (.slice ya yl yc)
    have HI6 : Hid (IsBs ((((w6.setCell ⟨G, 0, none⟩ (.bool q)).setCell ⟨G, 1, none⟩ (.int .i64 n1)).setCell ⟨G, 2, none⟩ (.int .i64 n2)).setCell ⟨G, 3, none⟩ (.slice ya yl yc)) ya yl) := IsBs.putF (HIW.out.below hb6.out) G _ _ _ _
    have hgF := grown_putF (grown_bel hgW hb6.out) HG.out (.bool q) (.int .i64 n1) (.int .i64 n2) (.slice ya yl yc)
    clear hyW hgW HIW hb6 hRW m0 m1 m2 m3 c0 c1 c2 c3 hR6
    go_wp2_with fail
    refine bodyPost_ret (v := .tuple #[.agg #[.bool q, .int .i64 n1, .int .i64 n2, .slice ya yl yc], .bool B]) (by simp [results, Try.results49, go_sem, r0, r1, r2, r3]) rfl ?_
    refine ⟨q, n1, n2, ya, yl, yc, ys, B, rfl, hy6, ⟨yn, fun ad e h0 => ⟨HYF.out ad e h0, HI6.out ad e h0⟩⟩, fun e => ?_, fun e d s a body hr hd => ?_, hgF⟩
    · rw [hB2.out] at e
      exact ⟨e, HH.out⟩
    · obtain ⟨⟨k1, k2, k3, k4⟩, -, -⟩ := ALL.out d s a body hr hd
      subst k1 k2 k3 k4
      rw [← hB2.out, e] at hr
      cases hr
end Go.Proofs.Ytjokbikelklaiaa

namespace Go.Proofs.Ytjokbikelklaiaa
open Go.RowKit

theorem enc_parts {d : Bool} {s a : Int} {body L : List Int} (h : IsEnc d s a body L) : L.drop (L.length - 4) = be4 (sumC (L.take (L.length - 4))) ∧ IsHead d s a body (L.take (L.length - 4)) := by
  obtain ⟨m, h1, rfl⟩ := h
  have e : (m ++ be4 (sumC m)).length - 4 = m.length := by simp [be4]
  rw [e, List.take_left, List.drop_left]
  exact ⟨rfl, h1⟩
theorem parts_enc {d : Bool} {s a : Int} {body L : List Int} (h1 : L.drop (L.length - 4) = be4 (sumC (L.take (L.length - 4)))) (h2 : IsHead d s a body (L.take (L.length - 4))) : IsEnc d s a body L :=
  ⟨_, h2, by rw [← h1, List.take_append_drop]⟩

set_option maxRecDepth 20000 in
set_option maxHeartbeats 6400000 in
theorem f10dec_any (b : Option Addr) (lb cb : Nat) (L : List Int) (w : World) (h : Byts w b lb cb L) (hlen : lb ≤ 140737488355300) :
    Calls Try.prog 34 #[.slice b lb cb] w fun e w' => DecT L w e w' := by
  have hcap := h.hcap
  have hmax := h.hmax
  unfold maxLen at hmax
  have HL : Hid (L.length = lb) := h.hlen
  have hV := balloc w (.cells #[.bool false, .int .i64 0, .int .i64 0, .slice none 0 0] 65)
  have hR := CellF.new w false 0 0 none 0 0
  obtain ⟨V, hVe⟩ : ∃ V, V = w.alloc (.cells #[.bool false, .int .i64 0, .int .i64 0, .slice none 0 0] 65) := ⟨_, rfl⟩
  have HVe : Hid (V = w.alloc (.cells #[.bool false, .int .i64 0, .int .i64 0, .slice none 0 0] 65)) := hVe
  rw [← hVe] at hV hR
  have h1 := h.below hV
  clear hVe h
  obtain ⟨X, hX⟩ : ∃ X : Bool, X = !decide (4 ≤ lb ∧ L.drop (lb - 4) = be4 (sumC (L.take (lb - 4)))) := ⟨_, rfl⟩
  have HX : Hid (X = !decide (4 ≤ lb ∧ L.drop (lb - 4) = be4 (sumC (L.take (lb - 4))))) := hX
  clear hX
  obtain ⟨e4, he4⟩ : ∃ e4 : Int, (lb : Int) - 4 = e4 := ⟨_, rfl⟩
  go_enter Try.func34, Try.ntmps34
  go_wp2_with fail
  rw [← HVe.out]
  obtain ⟨G, hG⟩ : ∃ G, G = w.heap.size := ⟨_, rfl⟩
  rw [← hG] at hR
  rw [← hG]
  have HG : Hid (w.heap.size ≤ G) := by show _ ≤ _; rw [hG]; exact Nat.le_refl _
  clear HVe hG
  have BAD : ∀ wx : World, (∀ d s a body, rightFr d s a body.length = true → ¬ IsEnc d s a body L) → Below w.heap.size w wx → Hid (DecT L w (.returned (.tuple #[.agg #[.bool false, .int .i64 0, .int .i64 0, .slice none 0 0], .int .i64 14])) ((((wx.setCell ⟨G, 0, none⟩ (.bool false)).setCell ⟨G, 1, none⟩ (.int .i64 0)).setCell ⟨G, 2, none⟩ (.int .i64 0)).setCell ⟨G, 3, none⟩ (.slice none 0 0))) := fun wx hn hb => ⟨false, 0, 0, none, 0, 0, [], 14, rfl, Byts.nil _, .inr ⟨hn, ⟨rfl, rfl, rfl, rfl⟩, rfl⟩, ⟨fun _ => rfl, fun _ e => (by cases e)⟩, putF_below hb HG.out _ _ _ _⟩
  go_cut [22] (fun v wx => v = .bool X ∧ Below V.heap.size V wx)
  case first =>
    clear BAD hR hV
    by_cases h4 : lb < 4
    · have h4d : decide (e4 < 0) = true := decide_eq_true (by omega)
      have HT : Hid (X = true) := by show _ = _; rw [HX.out, decide_eq_false (fun e => by omega)]; rfl
      clear h1 HX
      go_quiet (fail)
      go_wp2_with fail
      go_meet
      case rel => exact ⟨by rw [HT.out], below_drewN (Below.refl _ _) _⟩
    · obtain ⟨B, off, rfl, -⟩ := h1.cells (by omega)
      obtain ⟨E, rfl⟩ : ∃ E : Nat, e4 = (E : Int) := ⟨lb - 4, by omega⟩
      have hEn : lb - 4 = E := by omega
      have hEl : E + 4 = lb := by omega
      have k1 := h1.take10 (k := E) (by omega)
      have k2 := h1.drop (m := E) (by omega)
      rw [hEn] at HX
      have h4d : decide ((E : Int) < 0) = false := decide_eq_false (by omega)
      have hcE : E ≤ cb := by omega
      have hcE2 : E ≤ lb := by omega
      have hne : ¬ cb = E := by omega
      have hl4 : lb - E = 4 := by omega
      have HRB : Hid (Below V.heap.size V V) := Below.refl _ _
      rw [hl4] at k2
      have HSu : Hid (∀ wx : World, Below V.heap.size V wx → Calls Try.prog 48 #[.slice (some ⟨B, off, none⟩) E cb] wx fun e w' => ∃ q, e = .returned (.slice (some q) 4 4) ∧ Hid (Byts w' (some q) 4 4 (be4 (sumC (L.take E))) ∧ Below V.heap.size V w')) := by
        intro wx hbx
        refine (f10four_any _ _ _ _ wx (k1.below hbx)).mono ?_
        rintro e w' ⟨q, rfl, hq, hb⟩
        exact ⟨q, rfl, hq, bthen hbx hb⟩
      have HEq : Hid (∀ (wx : World) (q : Addr), Byts wx (some q) 4 4 (be4 (sumC (L.take E))) → Below V.heap.size V wx → Calls Try.prog 47 #[.slice (some ⟨B, off + E, none⟩) 4 (cb - E), .slice (some q) 4 4] wx fun e w' => e = .returned (.bool (!X)) ∧ Hid (Below V.heap.size V w')) := by
        intro wx q hq hbx
        refine (equal10_any _ _ _ _ _ _ _ _ wx (k2.below hbx) hq).mono ?_
        rintro e w' ⟨rfl, hb⟩
        refine ⟨?_, bthen hbx hb⟩
        rw [HX.out, Bool.not_not]
        have : decide (4 ≤ lb ∧ L.drop E = be4 (sumC (L.take E))) = decide (L.drop E = be4 (sumC (L.take E))) := by
          rw [decide_eq_decide]
          exact ⟨fun h => h.2, fun h => ⟨by omega, h⟩⟩
        rw [this]
      clear k1 k2 h1 HX hEn h4
      go_region_held3 (fun _ => True) (trivial)
        (first
        | (go_at_call 48; with_reducible refine Calls.mono (HSu.out _ ?_) ?_; (focus (repeat (first | exact HRB.out | refine bdrX' ?_ | refine bgrX ?_ _))); rintro e w3 ⟨q, rfl, hS3⟩)
        | (go_at_call 47; with_reducible refine Calls.mono (HEq.out _ q ?_ ?_) ?_; (focus (first | exact hS3.out.1 | exact hS3.out.1.below (bdrX _))); (focus (repeat (first | exact hS3.out.2 | refine bdrX' ?_ | refine bgrX ?_ _))); rintro e w4 ⟨rfl, hB4⟩))
      all_goals
        clear HSu HEq HRB
        go_wp2_with fail
        go_meet
        case rel => exact ⟨by first | rfl | simp, hB4.out⟩
  case rest =>
    obtain ⟨rfl, hbc⟩ := hcut
    have hRc := hR.below hbc
    have hBc := bthen hV hbc
    have h2 := h1.below hbc
    clear hR hV h1 hbc
    cases X with
    | true =>
      have HB := BAD wc (fun d s a body hr he => by
        have e := HX.out
        have k := (enc_parts he).1
        have l8 := (dec_first he hr).1
        rw [HL.out] at k l8
        rw [decide_eq_true ⟨by omega, k⟩] at e
        cases e) hBc
      obtain ⟨r0, r1, r2, r3, f0, f1, f2, f3⟩ := hRc
      clear BAD h2 hBc HX
      go_wp2_with fail
      exact bodyPost_ret (v := .tuple #[.agg #[.bool false, .int .i64 0, .int .i64 0, .slice none 0 0], .int .i64 14]) (by simp [results, Try.results34, go_sem, r0, r1, r2, r3]) rfl HB.out
    | false =>
      have hXX : 4 ≤ lb ∧ L.drop (lb - 4) = be4 (sumC (L.take (lb - 4))) := by
        have e := HX.out
        exact of_decide_eq_true (by cases hd : decide (4 ≤ lb ∧ L.drop (lb - 4) = be4 (sumC (L.take (lb - 4)))) with | true => rfl | false => rw [hd] at e; cases e)
      obtain ⟨h4, hXs⟩ := hXX
      obtain ⟨B, off, rfl, -⟩ := h2.cells (by omega)
      obtain ⟨E, rfl⟩ : ∃ E : Nat, e4 = (E : Int) := ⟨lb - 4, by omega⟩
      have hEn : lb - 4 = E := by omega
      have k1 := h2.take10 (k := E) (by omega)
      have hcE : E ≤ cb := by omega
      have HP : Hid (L.drop (L.length - 4) = be4 (sumC (L.take (L.length - 4))) ∧ L.take (L.length - 4) = L.take E) := by
        rw [HL.out]
        exact ⟨hXs, by rw [hEn]⟩
      have hE3 : E ≤ 140737488355300 := by omega
      clear hXs HX h4 hEn
      go_wp2_with fail
      refine (c9new_any _ _ _ _ _ k1 hE3).mono ?_
      rintro e w2 ⟨g, rfl, hg, hA, hb2⟩
      have hR2 := hRc.below hb2
      have hB2 := bthen hBc hb2
      have hGg : G ≠ g := by have := hRc.lt; omega
      have hwg : w.heap.size ≤ g := Nat.le_trans hBc.size hg
      clear hRc hBc h2 k1
      go_wp2_with fail
      refine (f10read_any g _ _ hA).mono ?_
      rintro e w3 ⟨d, s, a, p, l, c, ys, ok, rfl, hy, hyf, hok, hno, hgr⟩
      have hR3 := hR2.grown hgr hGg
      have hB3 : Below w.heap.size w w3 := hB2.grown hgr hB2.size (fun q hq => by cases hq; exact hwg)
      have HYF : Hid (∀ ad, p = some ad → 0 < l → w.heap.size ≤ ad.block) := fun ad e h0 => Nat.le_trans hB2.size (hyf.2 ad e h0).1
      have HI3 : Hid (IsBs w3 p l) := fun ad e h0 => (hyf.2 ad e h0).2
      have HPN : Hid (p = none → c = 0) := hyf.1
      have hFn := balloc w3 (.cells #[.bool d, .int .i64 s, .int .i64 a, .slice p l c] 65)
      have hR4 := hR3.below hFn
      have HF := CellF.new w3 d s a p l c
      have hy4 := hy.below hFn
      have HI4 : Hid (IsBs (w3.alloc (.cells #[.bool d, .int .i64 s, .int .i64 a, .slice p l c] 65)) p l) := HI3.out.below hFn
      have hB4 := bthen hB3 hFn
      obtain ⟨r0, r1, r2, r3, f0, f1, f2, f3⟩ := hR4
      have hRc : CellF (w3.alloc (.cells #[.bool d, .int .i64 s, .int .i64 a, .slice p l c] 65)) G false 0 0 none 0 0 := ⟨r0, r1, r2, r3, f0, f1, f2, f3⟩
      have HOK : Hid (ok = true → rightFr d s a ys.length = true ∧ IsHead d s a ys (L.take E)) := hok
      have HNO : Hid (ok = false → ∀ d s a body, rightFr d s a body.length = true → ¬ IsHead d s a body (L.take E)) := hno
      clear hR2 hB2 hgr hyf hok hno hB3 hFn hR3 hy HI3 hb2 hA hg
      cases ok with
      | false =>
        have HB := BAD _ (fun d s a body hr he => HNO.out rfl d s a body hr (by have := (enc_parts he).2; rwa [HP.out.2] at this)) hB4
        clear BAD hB4 hy4 HF hRc
        go_wp2_with fail
        exact bodyPost_ret (v := .tuple #[.agg #[.bool false, .int .i64 0, .int .i64 0, .slice none 0 0], .int .i64 14]) (by simp [results, Try.results34, go_sem, r0, r1, r2, r3]) rfl HB.out
      | true =>
        have HD : Hid (ResDec L d s a ys 0) := .inl ⟨(HOK.out rfl).1, parts_enc HP.out.1 (by rw [HP.out.2]; exact (HOK.out rfl).2), rfl⟩
        have k1 := Byts.putF hRc hy4 (.bool d) (.int .i64 s) (.int .i64 a) (.slice p l c)
        have hBB := putF_below hB4 HG.out (.bool d) (.int .i64 s) (.int .i64 a) (.slice p l c)
        have HI5 := IsBs.putF HI4.out G (.bool d) (.int .i64 s) (.int .i64 a) (.slice p l c)
        obtain ⟨F0, F1, F2, F3, -, -, -, -⟩ := HF
        clear BAD hB4 hy4 hRc
        go_wp2_with fail
        exact bodyPost_ret (v := .tuple #[.agg #[.bool d, .int .i64 s, .int .i64 a, .slice p l c], .int .i64 0]) (by simp [results, Try.results34, go_sem, r0, r1, r2, r3]) rfl ⟨_, _, _, _, _, _, _, _, rfl, k1, HD.out, ⟨HPN.out, fun ad e h0 => ⟨HYF.out ad e h0, HI5 ad e h0⟩⟩, hBB⟩
theorem dec_ok10 : DecOk10 := fun b lb cb L w h _ hlen => f10dec_any b lb cb L w h hlen
end Go.Proofs.Ytjokbikelklaiaa
