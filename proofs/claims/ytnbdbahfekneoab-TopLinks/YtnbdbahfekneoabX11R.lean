/-
  The program's end of a link: the contract of In.
  A region that draws its order, inside a round of a range over a function; contracts of encoded and due, and of what due hands back.
  The program's end of a link: the contract of due, and of the function that it hands back.
-/
import Derived.Test.YtnbdbahfekneoabX11Q
import Derived.Test.YtnbdbahfekneoabX10P
import Derived.RangeFuncNested
import Derived.RangeFuncBound
import Derived.RangeFuncCalls
import Derived.RangeFuncLeaves
import Derived.RangeFuncFrom
import Derived.Shelf.Abstract
import Derived.Shelf.RegionOpen
import Derived.WalkKit
import Derived.OwnWalkIn
import Derived.TacticsInMore
import Derived.LoopNIn
import Derived.LoopIn
import Derived.Deep.RegionHeld3
namespace Go.Proofs.Ytnbdbahfekneoab
open Go.RowKit

/-- Where In is: the end knows stx; the frame's variable is V. -/
structure PIn (w : World) (T : Nat → Prop) (g V : Nat) (d : Bool) (s a : Int) (p : Option Addr) (l c : Nat) (body : List Int) (stx : LS) (v1 : Value) (bm : Nat) (v6 : Value) (Tx : Nat → Prop) (wx : World) : Prop where
  ends : PEndV wx g stx v1 bm v6 Tx
  var : FrV wx V d s a p l c
  byt : BytG wx p l c body
  only : Only T w wx
  foot : ∀ b, Tx b → T b ∨ w.heap.size ≤ b
  new : w.heap.size ≤ V ∧ ¬ Tx V
section
variable {w : World} {T : Nat → Prop} {g V : Nat} {d : Bool} {s a : Int} {p : Option Addr} {l c : Nat} {body : List Int} {stx sty : LS} {v1 u1 : Value} {bm : Nat} {v6 u6 : Value} {Tx Ty : Nat → Prop} {wx wy : World}
theorem PIn.end (h : PIn w T g V d s a p l c body stx v1 bm v6 Tx wx) (hF : stx.Fine) : EndT11 PEnd w g stx T wx := ⟨Tx, ⟨hF, v1, bm, v6, h.ends⟩, h.only, h.foot⟩
theorem PIn.go (h : PIn w T g V d s a p l c body stx v1 bm v6 Tx wx) (hy : PEndV wy g sty u1 bm u6 Ty) (o : Only Tx wx wy) (ht : ∀ b, Ty b → Tx b ∨ wx.heap.size ≤ b) : PIn w T g V d s a p l c body sty u1 bm u6 Ty wy := by
  have hsz := h.only.size
  have hV : V < wx.heap.size := World.block_lt_of_cell? _ _ h.var.c0
  refine ⟨hy, h.var.only o h.new.2, h.byt.only o h.ends.notB, h.only.trans o h.foot, fun b e => ?_, h.new.1, fun e => ?_⟩
  · rcases ht b e with k | k
    · exact h.foot b k
    · exact .inr (by omega)
  · rcases ht V e with k | k
    · exact h.new.2 k
    · omega
theorem PIn.draw (h : PIn w T g V d s a p l c body stx v1 bm v6 Tx wx) (j : Nat) : PIn w T g V d s a p l c body stx v1 bm v6 Tx (wx.drewN j) := h.go (h.ends.draw j).1 (h.ends.draw j).2 (fun _ e => .inl e)
end

set_option maxRecDepth 20000 in
set_option maxHeartbeats 6400000 in
theorem p11in_any (g : Nat) (st : LS) (T : Nat → Prop) (a : Option Addr) (la ca : Nat) (bs : List Int) (w : World) (h : PEnd w g st T) (hb : Byts w a la ca bs) (hlen : la ≤ 140737488355300) (hall : st.all.length + 16 ≤ 1073741824) :
    Calls Try.prog 9 #[.pointer (some ⟨g, 0, none⟩), .slice a la ca] w fun e w' => InT11 PEnd w g st T bs e w' := by
  obtain ⟨hF, v1, bm, v6, h⟩ := h
  have HF0 : Hid st.Fine := hF
  clear hF
  have HH : Hid (PEndV w g st v1 bm v6 T) := h
  go_enter Try.func9, Try.ntmps9
  go_wp2_with fail
  refine (f10dec_any a la ca bs w hb hlen).mono ?_
  rintro e w1 ⟨d, s, ak, p, l, c, body, err, rfl, hbo, hres, ⟨hbn, hbf⟩, hb1⟩
  clear h hb
  have HI0 : Hid (PIn w T g w1.heap.size d s ak p l c body st v1 bm v6 T (w1.alloc (.cells #[.bool d, .int .i64 s, .int .i64 ak, .slice p l c] 63))) := by
    have hz := balloc w1 (.cells #[.bool d, .int .i64 s, .int .i64 ak, .slice p l c] 63)
    have hF := CellF.new w1 d s ak p l c
    exact ⟨(HH.out.below hb1).below hz, ⟨hF.c0, hF.c1, hF.c2, hF.c3⟩, BytG.below ⟨hbo, hbn, fun ad e h0 => (hbf ad e h0).2⟩ hz, Only.of_below (bthen hb1 hz), fun b e => .inl e, hb1.size, fun e => by have := HH.out.old _ e; have := hb1.size; omega⟩
  clear HH hbo hbn hbf hb1
  go_wp2_with fail
  generalize hW : World.alloc w1 _ = W0 at HI0 ⊢
  generalize hV : w1.heap.size = V at HI0 ⊢
  clear hW hV w1
  have C2 := HI0.out.var.c2
  have g3 : W0.cell? ⟨g, 3, none⟩ = some (.int .i64 st.sent) := HI0.out.ends.cell 3
  have HMd : ∀ j, Hid (Calls Try.prog 19 #[.pointer (some ⟨g, 0, none⟩)] (W0.drewN j) fun e w' => e = .returned (.bool true) ∧ w' = W0.drewN j) := fun j => p11made_any (HI0.out.draw j).ends
  rcases hres with ⟨hr, he, rfl⟩ | ⟨hn, ⟨rfl, rfl, rfl, rfl⟩, rfl⟩
  case inr =>
    have HB : Hid (∀ j, InT11 PEnd w g st T bs (.returned (.int .i64 14)) (W0.drewN j)) := fun j => .inl ⟨fun f hf => hn _ _ _ _ hf.1 hf.2, rfl, (HI0.out.draw j).end HF0.out⟩
    clear HI0 hn
    go_quiet ((go_at_call 19; exact Calls.quiet_of_same (HMd _).out))
    go_wp2
    go_ret
    exact HB.out _
  obtain ⟨r1, r2, r3, r4, r5, r6⟩ := (rightFr_iff _ _ _ _).1 hr
  obtain ⟨S, rfl⟩ : ∃ S : Nat, s = (S : Int) := ⟨s.toNat, by omega⟩
  obtain ⟨A, rfl⟩ : ∃ A : Nat, ak = (A : Int) := ⟨ak.toNat, by omega⟩
  obtain ⟨f, hf⟩ : ∃ f : Fr11, f = ⟨d, S, A, body⟩ := ⟨_, rfl⟩
  have hfr : IsFr f bs := by rw [hf]; exact ⟨hr, he⟩
  obtain ⟨n3, hn3⟩ : ∃ n3, n3 = st.sent := ⟨_, rfl⟩
  rw [← hn3] at g3
  by_cases hA : n3 < A
  · have HB : Hid (∀ j, InT11 PEnd w g st T bs (.returned (.int .i64 14)) (W0.drewN j)) := fun j => .inr ⟨f, hfr, by unfold LS.inE; rw [hf, if_pos (by rw [← hn3]; exact hA)], by unfold LS.inF; rw [hf, if_pos (by rw [← hn3]; exact hA)]; exact (HI0.out.draw j).end HF0.out⟩
    have hAd : decide (n3 < A) = true := decide_eq_true hA
    clear HI0 hr he hf hfr hn3 hA
    go_quiet ((go_at_call 19; exact Calls.quiet_of_same (HMd _).out))
    go_wp2
    go_ret
    exact HB.out _
  have hAd : decide (n3 < A) = false := decide_eq_false hA
  have HX : Hid (f = ⟨d, S, A, body⟩ ∧ IsFr f bs ∧ n3 = st.sent ∧ S ≤ 1073741824) := ⟨hf, hfr, hn3, by omega⟩
  clear hr he hf hfr hn3 r1 r2 r3 r4 r5 r6
  have HAK : Hid ((st.acked A).Fine) := by
    have hfi := HF0.out
    exact ⟨show max st.sure A ≤ st.sent by have := hfi.sure; have := HX.out.2.2; omega, hfi.sent, show st.sent ≤ max st.sure A + st.win by have := hfi.win; omega, hfi.w16, hfi.hold, hfi.told⟩
  go_quiet ((go_at_call 19; exact Calls.quiet_of_same (HMd _).out))
  generalize hW : World.drewN W0 _ = W1
  have HI1 : Hid (PIn w T g V d S A p l c body st v1 bm v6 T W1) := by subst hW; exact HI0.out.draw _
  clear HI0 HMd C2 g3 hW
  have D2 := HI1.out.var.c2
  have HCo := (show Hid _ from p11confirm_any HI1.out.ends (A := A) (by have := HX.out.2.2.1; omega))
  go_wp2_with fail
  refine Calls.mono HCo.out ?_
  rintro e W2 ⟨rfl, u1, Tx, k1, k2, k3⟩
  have HI2 : Hid (PIn w T g V d S A p l c body (st.acked A) u1 bm v6 Tx W2) := HI1.out.go k1 k2 k3
  clear HI1 HCo k1 k2 k3 D2
  have E0 := HI2.out.var.c0
  cases d with
  | false =>
    have HB : Hid (InT11 PEnd w g st T bs (.returned (.int .i64 0)) W2) := .inr ⟨f, HX.out.2.1, by unfold LS.inE; rw [HX.out.1, if_neg (by have := HX.out.2.2.1; show ¬ st.sent < A; omega)], by
      unfold LS.inF
      rw [HX.out.1, if_neg (by have := HX.out.2.2.1; show ¬ st.sent < A; omega), if_neg (by simp)]
      exact HI2.out.end HAK.out⟩
    clear HI2 HX
    go_wp2
    go_ret
    exact HB.out
  | true =>
    obtain ⟨st2, hst2⟩ : ∃ st2 : LS, st2 = { st.acked A with owes := true } := ⟨_, rfl⟩
    have hf2 : st2.Fine := by rw [hst2]; exact ⟨HAK.out.sure, HAK.out.sent, HAK.out.win, HAK.out.w16, HAK.out.hold, HAK.out.told⟩
    have g7 : W2.cell? ⟨g, 7, none⟩ = some (.bool (st.acked A).owes) := HI2.out.ends.cell 7
    have f7 := HI2.out.ends.frozen 7
    have hp7 := HI2.out.ends.put (st' := st2) 7 (.bool true) (by rw [hst2]; rfl) (by rw [hst2]) (by rw [hst2]) (by rw [hst2]) (by rw [hst2]) (by rw [hst2]) hf2.loose
    have HI3 : Hid (PIn w T g V true S A p l c body st2 u1 bm v6 Tx (W2.setCell ⟨g, 7, none⟩ (.bool true))) := HI2.out.go hp7.1 hp7.2 (fun b e => .inl e)
    have HY : Hid (st.inF f = LS.drain 16 (st2.keep S body) ∧ st.inE f = 0 ∧ (st.inF f).Fine ∧ st2.Fine ∧ st2.all = st.all) := by
      have e1 : ¬ st.sent < A := by have := HX.out.2.2.1; omega
      refine ⟨by unfold LS.inF; rw [HX.out.1, if_neg e1, if_pos rfl, hst2], by unfold LS.inE; rw [HX.out.1, if_neg e1], ?_, hf2, by rw [hst2]; rfl⟩
      rw [HX.out.1]
      exact (LS.in_got HF0.out rfl (by show A ≤ st.sent; omega)).fine
    have F1 := HI3.out.var.c1
    have F3 := HI3.out.var.c3
    have HHo := (show Hid _ from p11hold_any HI3.out.ends HY.out.2.2.2.1 (S := S) HX.out.2.2.2 HI3.out.byt)
    clear hst2 hf2 hp7 HI2
    go_wp2_with fail
    refine Calls.mono HHo.out ?_
    rintro e W4 ⟨rfl, k1, k2⟩
    have HI4 : Hid (PIn w T g V true S A p l c body (st2.keep S body) u1 bm v6 Tx W4) := HI3.out.go k1 k2 (fun b e => .inl e)
    have HGe := (show Hid _ from p11get_any HI4.out.ends (Drains.start HY.out.2.2.2.1 S body) (by rw [(LS.keep_same st2 S body).2.2.2.2.2.2.2, HY.out.2.2.2.2]; exact hall))
    clear HI3 HHo k1 k2 F1 F3
    go_wp2_with fail
    refine Calls.mono HGe.out ?_
    rintro e W5 ⟨rfl, u6, Ty, k1, k2, k3⟩
    have HB : Hid (InT11 PEnd w g st T bs (.returned (.int .i64 0)) W5) := by
      refine .inr ⟨f, HX.out.2.1, by rw [HY.out.2.1], ?_⟩
      have := HI4.out.go k1 k2 k3
      rw [← HY.out.1] at this
      exact this.end HY.out.2.2.1
    clear HI4 HGe k1 k2 k3 HX HY
    go_wp2
    go_ret
    exact HB.out
end Go.Proofs.Ytnbdbahfekneoab

namespace Go.Proofs.Ytnbdbahfekneoab
open Go.RowKit Go.Shelf

attribute [local go_sem] Oper.semAt_some

theorem rows_round {P : Program} {row : String} {args : Array Value} {w : World} {R : Value → World → Prop} (l n : Nat) (h : Rows P row args w R) : RowsIn (Fence.wide.inRound l) n P row args w R := by
  have h2 : RowsIn Fence.wide n P row args w R := fun c cs _ => let ⟨v, w', r, s⟩ := h c cs; ⟨v, w', r, stepsIn_wide.2 s⟩
  exact h2
theorem op_round {P : Program} {ops : Array Oper} {Q : Exit → Act → World → Prop} (l n : Nat) (hd : ∀ (i : Nat) (o : Oper), ops[i]? = some o → ∀ c, o.op ≠ .defer c) (hQ : ¬ LetsOut Q) {i : Nat} {K K' : Act → World → Prop} {a : Act} {w : World} (hK : ∀ a w, K a w → K' a w) (h : wpOp P ops Q i K a w) : wpOpIn (Fence.wide.inRound l) n P ops Q i K' a w := by
  unfold wpOp at h
  unfold wpOpIn
  cases ho : ops[i]? with
  | none =>
    simp only [ho] at h ⊢
    exact hK _ _ h
  | some o =>
    simp only [ho] at h ⊢
    by_cases hw : Region.wanted o (yielded ops a.tmps) = true
    · rw [if_pos hw] at h ⊢
      rcases h with h | h
      · refine ⟨fun _ _ => trivial, ?_⟩
        rw [Oper.semAt_eq _ _ _ (hd i o ho)]
        unfold Oper.wp at h
        generalize (execOp a.eval o).run P w = r at h ⊢
        cases r with
        | ok x w' =>
          cases x with
          | value v => exact hK _ _ h
          | skip => exact hK _ _ h
          | defer d => exact hK _ _ h
          | enter f args =>
            refine ⟨fun e => (by cases e), ?_⟩
            refine CallsIn.inRound l (callsIn_wide.2 (Calls.mono h ?_))
            intro e w'' he
            cases e with
            | returned u => exact hK _ _ he
            | panicked c => exact he
            | outgrown => exact he
          | row row args => exact ⟨fun e => (by cases e), rows_round l _ (Rows.mono h fun u w'' he => hK _ _ he)⟩
          | round l f tmps assign body => exact False.elim h
          | _ => exact False.elim h
        | halt x w' =>
          cases x with
          | panic v => exact h
          | _ => exact False.elim h
      · exact absurd h.2 hQ
    · rw [if_neg hw] at h ⊢
      exact ⟨fun _ _ => trivial, hK _ _ h⟩
/-- Whatever order is picked: what holds in a function's own body holds in a round. -/
theorem any_round {P : Program} {md : Region.Mode} {ops : Array Oper} {Q : Exit → Act → World → Prop} (l n : Nat) (hd : ∀ (i : Nat) (o : Oper), ops[i]? = some o → ∀ c, o.op ≠ .defer c) (hQ : ¬ LetsOut Q) : ∀ (fuel : Nat) (listed : Array Bool) (a : Act) (w : World), wpAny P md ops Q fuel listed a w → wpAnyIn (Fence.wide.inRound l) n P md ops Q fuel listed a w
  | 0, _, _, _, h => h
  | fuel + 1, _, _, _, h => ⟨h.1, fun i hi => op_round l n hd hQ (fun a w => any_round l n hd hQ fuel _ a w) (h.2 i hi)⟩
theorem region_round {P : Program} {ops : Array Oper} {Q : Exit → Act → World → Prop} {l n id : Nat} {a : Act} {w : World} (hm : P.follows .mixedOrders = true) (hd : ∀ (i : Nat) (o : Oper), ops[i]? = some o → ∀ c, o.op ≠ .defer c) (hQ : ¬ LetsOut Q) (h : wpAny P .any ops Q ops.size (Array.replicate ops.size false) a w.drew) : (Code.region id ops true).wpIn (Fence.wide.inRound l) n P Q a w :=
  wpIn_region_any hm (any_round l n hd hQ _ _ _ _ h)

set_option maxRecDepth 20000 in
set_option maxHeartbeats 1600000 in
theorem p11enc_any {g : Nat} {st : LS} {v1 : Value} {bm : Nat} {v6 : Value} {T : Nat → Prop} {w : World} (h : PEndV w g st v1 bm v6 T) (d : Bool) (S : Nat) (p : Option Addr) (l c : Nat) (body : List Int) (hb : BytG w p l c body) (hr : rightFr d (S : Int) (st.all.length : Int) body.length = true) :
    Calls Try.prog 23 #[.pointer (some ⟨g, 0, none⟩), .agg #[.bool d, .int .i64 (S : Int), .int .i64 0, .slice p l c]] w fun e w' => FrT11 ⟨d, S, st.all.length, body⟩ w e w' := by
  have c4 : w.cell? ⟨g, 4, none⟩ = some (.int .i64 st.all.length) := h.cell 4
  have hgl := h.lt
  obtain ⟨n, hn⟩ : ∃ n, n = st.all.length := ⟨_, rfl⟩
  rw [← hn] at c4 hr ⊢
  obtain ⟨V, hV⟩ : ∃ V, V = w.alloc (.cells #[.bool d, .int .i64 (S : Int), .int .i64 (n : Int), .slice p l c] 63) := ⟨_, rfl⟩
  have hVB : Below w.heap.size w V := by
    rw [hV]
    exact balloc w _
  have HB : Hid (BytG V p l c body) := hb.below hVB
  have HEn : Hid (∀ wx, wx = V → Calls Try.prog 43 #[.agg #[.bool d, .int .i64 (S : Int), .int .i64 (n : Int), .slice p l c]] wx fun e w' => EncT d S n body V e w') := fun wx e => by rw [e]; exact f10enc_any d S n p l c body V HB.out.byts HB.out.nil
  have HV : Hid (w.alloc (.cells #[.bool d, .int .i64 (S : Int), .int .i64 (n : Int), .slice p l c] 63) = V) := hV.symm
  clear h hn hb HB hV
  go_enter Try.func23, Try.ntmps23
  go_wp2_with fail
  refine Calls.mono (HEn.out _ HV.out) ?_
  rintro e w2 ⟨za, zl, zc, ys, ze, rfl, hz, hres, ⟨zn, zf⟩, hb2⟩
  have HF : Hid (FrT11 ⟨d, S, n, body⟩ w (.returned (.slice za zl zc)) w2) := by
    have hE : IsEnc d (S : Int) (n : Int) body ys := by
      rcases hres with ⟨_, k, _⟩ | ⟨k, _, _⟩
      · exact k
      · rw [hr] at k; cases k
    have hsz := hVB.size
    exact ⟨za, zl, zc, ys, rfl, ⟨⟨hz, zn, fun ad e h0 => (zf ad e h0).2⟩, fun ad e h0 => Nat.le_trans hsz (zf ad e h0).1⟩, ⟨hr, hE⟩, bthen hVB hb2⟩
  clear HEn hz hres zn zf hb2
  go_wp2
  go_ret
  exact HF.out
end Go.Proofs.Ytnbdbahfekneoab

namespace Go.Proofs.Ytnbdbahfekneoab
open Go.RowKit Go.Shelf

attribute [local go_sem] Oper.semAt_some

/-- The builtins min and max of two numbers, as one step of a region that draws its order. -/
theorem step_min (w : World) {ops : Array Oper} {o : Oper} {a : Act} {K : Act → World → Prop} {Q : Exit → Act → World → Prop} {E : Prop} (hgd : o.guard = none) (x y : Operand) (t : TypeId)
    (ho : o.op = .call { callee := .builtin .min, args := #[x, y], argTypes := #[t, t] }) (X Y Z : Int) (hx : a.eval x = .int .i64 X) (hy : a.eval y = .int .i64 Y) (hz : (if Y < X then Y else X) = Z)
    (h : K (a.put o.dst (.int .i64 Z)) w) : if Region.wanted o (yielded ops a.tmps) = true then Oper.wp Try.prog o a w K Q else E := by
  rw [if_pos (by simp [Region.wanted, hgd])]
  unfold Oper.wp
  simp [execOp, ho, resolve, invoke, builtin, hx, hy, Builtin.min_, Builtin.min2, hz]
  exact h
theorem step_max (w : World) {ops : Array Oper} {o : Oper} {a : Act} {K : Act → World → Prop} {Q : Exit → Act → World → Prop} {E : Prop} (hgd : o.guard = none) (x y : Operand) (t : TypeId)
    (ho : o.op = .call { callee := .builtin .max, args := #[x, y], argTypes := #[t, t] }) (X Y Z : Int) (hx : a.eval x = .int .i64 X) (hy : a.eval y = .int .i64 Y) (hz : (if X < Y then Y else X) = Z)
    (h : K (a.put o.dst (.int .i64 Z)) w) : if Region.wanted o (yielded ops a.tmps) = true then Oper.wp Try.prog o a w K Q else E := by
  rw [if_pos (by simp [Region.wanted, hgd])]
  unfold Oper.wp
  simp [execOp, ho, resolve, invoke, builtin, hx, hy, Builtin.max_, Builtin.max2, hz]
  exact h

/-- What due makes. -/
def DueT (F E : Nat) (w : World) (e : Ending) (w' : World) : Prop := ∃ B1 B2, e = .returned (.func (.func 42) #[] #[.pointer (some ⟨B1, 0, none⟩), .pointer (some ⟨B2, 0, none⟩)]) ∧ (w.heap.size ≤ B1 ∧ w.heap.size ≤ B2) ∧ w'.cell? ⟨B1, 0, none⟩ = some (.int .i64 (F : Int)) ∧ w'.cell? ⟨B2, 0, none⟩ = some (.int .i64 (E : Int)) ∧ Below w.heap.size w w'

set_option maxRecDepth 20000 in
set_option maxHeartbeats 3200000 in
theorem p11due_any {g : Nat} {st : LS} {v1 : Value} {bm : Nat} {v6 : Value} {T : Nat → Prop} {w : World} (h : PEndV w g st v1 bm v6 T) :
    Calls Try.prog 22 #[.pointer (some ⟨g, 0, none⟩)] w fun e w' => DueT st.from (min st.took.length (st.sure + st.win)) w e w' := by
  have c3 : w.cell? ⟨g, 3, none⟩ = some (.int .i64 st.sent) := h.cell 3
  have c8 : w.cell? ⟨g, 8, none⟩ = some (.bool st.tick) := h.cell 8
  have c2 : w.cell? ⟨g, 2, none⟩ = some (.int .i64 st.sure) := h.cell 2
  have c0 : w.cell? ⟨g, 0, none⟩ = some (.int .i64 st.win) := h.cell 0
  have hgl := h.lt
  have s1 := h.fine.sure
  have s2 := h.fine.sent
  have s3 := h.few.1
  have s4 := h.fine.w16
  obtain ⟨n, hn⟩ : ∃ n, n = st.took.length := ⟨_, rfl⟩
  obtain ⟨s, hs⟩ : ∃ s, s = st.sure := ⟨_, rfl⟩
  obtain ⟨k, hk⟩ : ∃ k, k = st.win := ⟨_, rfl⟩
  obtain ⟨t, ht⟩ : ∃ t, t = st.sent := ⟨_, rfl⟩
  obtain ⟨q, hq⟩ : ∃ q, q = st.tick := ⟨_, rfl⟩
  obtain ⟨F, hF⟩ : ∃ F, F = st.from := ⟨_, rfl⟩
  have hFq : F = if q then s else t := by rw [hF, hq, hs, ht]; rfl
  have HH : Hid (PEndV w g st v1 bm v6 T ∧ n = st.took.length) := ⟨h, hn⟩
  rw [← hn, ← hs, ← hk, ← hF]
  rw [← hn] at s2 s3
  rw [← hs] at s1 c2
  rw [← hk] at s4 c0
  rw [← ht] at c3 s1 s2
  rw [← hq] at c8
  have hsum : IntKind.i64.wrap ((s : Int) + (k : Int)) = (s : Int) + (k : Int) := by simp [IntKind.wrap, IntKind.signed, IntKind.bits]; omega
  clear h hn hs hk ht hq hF
  obtain ⟨E, hE⟩ : ∃ E, E = min n (s + k) := ⟨_, rfl⟩
  rw [← hE]
  have HE : Hid (E = min n (s + k)) := hE
  clear hE
  have KEY : ∀ W1 : World, W1 = w.alloc (.cells #[.int .i64 (F : Int)] 3) → Hid (∀ wx : World, Below W1.heap.size W1 wx → Calls Try.prog 20 #[.pointer (some ⟨g, 0, none⟩)] wx fun e w' => e = .returned (.int .i64 (n : Int)) ∧ ∃ j, w' = wx.drewN j) := fun W1 hW wx hbx => by
    have hb1 : Below w.heap.size w W1 := by rw [hW]; exact balloc w _
    have hb2 := bthen hb1 hbx
    have hx := HH.out.1.below hb2
    refine (p11taken_any hx).mono ?_
    rintro e w' ⟨rfl, j, rfl⟩
    exact ⟨by rw [HH.out.2], j, rfl⟩
  have TAIL : ∀ W1 : World, W1 = w.alloc (.cells #[.int .i64 (F : Int)] 3) → Hid ((g < W1.heap.size ∧ W1.heap.size ≠ g) ∧ (W1.cell? ⟨g, 2, none⟩ = some (.int .i64 (s : Int)) ∧ W1.cell? ⟨g, 0, none⟩ = some (.int .i64 (k : Int))) ∧ ∀ (w' : World) (B2 : Nat), Below W1.heap.size W1 w' → W1.heap.size ≤ B2 → w'.cell? ⟨B2, 0, none⟩ = some (.int .i64 (E : Int)) → DueT F E w (.returned (.func (.func 42) #[] #[.pointer (some ⟨w.heap.size, 0, none⟩), .pointer (some ⟨B2, 0, none⟩)])) w') := fun W1 hW => by
    have hb1 : Below w.heap.size w W1 := by rw [hW]; exact balloc w _
    have hsz := hb1.size
    have hB1 : W1.cell? ⟨w.heap.size, 0, none⟩ = some (.int .i64 (F : Int)) := by rw [hW]; simp
    exact ⟨⟨by omega, by omega⟩, ⟨bkeep hb1 c2 rfl, bkeep hb1 c0 rfl⟩, fun w' B2 x1 x2 x3 => ⟨w.heap.size, B2, rfl, ⟨Nat.le_refl _, by omega⟩, bkeep x1 hB1 rfl, x3, bthen hb1 x1⟩⟩
  cases q with
  | false =>
    rw [if_neg (by simp)] at hFq
    subst hFq
    obtain ⟨W1, hW⟩ : ∃ W1, w.alloc (.cells #[.int .i64 (F : Int)] 3) = W1 := ⟨_, rfl⟩
    have HW : Hid (w.alloc (.cells #[.int .i64 (F : Int)] 3) = W1) := hW
    have HK := KEY W1 hW.symm
    have HT := TAIL W1 hW.symm
    obtain ⟨hg1, hg2⟩ := HT.out.1
    obtain ⟨g2, g0⟩ := HT.out.2.1
    have bx : ∀ W : World, W.heap.size = W1.heap.size → (W.alloc (.cells #[.int .i64 0] 3)).cell? ⟨W1.heap.size, 0, none⟩ = some (.int .i64 0) ∧ (W.alloc (.cells #[.int .i64 0] 3)).frozen? ⟨W1.heap.size, 0, none⟩ = false := fun W e => by
      rw [← e]
      exact ⟨by simp, by simp⟩
    have b1 := fun j => (bx (W1.drewN j) rfl).1
    have b2 := fun j => (bx (W1.drewN j) rfl).2
    have b3 := (bx W1.drew rfl).1
    have b4 := (bx W1.drew rfl).2
    have b5 := (bx W1 rfl).1
    have b6 := (bx W1 rfl).2
    have HBx : Hid (∀ W : World, W.heap.size = W1.heap.size → (W.alloc (.cells #[.int .i64 0] 3)).cell? ⟨W1.heap.size, 0, none⟩ = some (.int .i64 0) ∧ (W.alloc (.cells #[.int .i64 0] 3)).frozen? ⟨W1.heap.size, 0, none⟩ = false) := bx
    clear bx
    have HBd : Hid (Below W1.heap.size W1 (W1.alloc (.cells #[.int .i64 0] 3)).drew) := below_drewN (balloc W1 (.cells #[.int .i64 0] 3)) 1
    clear KEY HH hW TAIL
    have hmin : (if (s : Int) + (k : Int) < (n : Int) then (s : Int) + (k : Int) else (n : Int)) = (E : Int) := by have := HE.out; split <;> omega
    go_enter Try.func22, Try.ntmps22
    go_wp2_with fail
    rw [HW.out]
    clear c2 c0 c3 c8
    go_region_held3 (fun w' => w'.cell? ⟨g, 2, none⟩ = some (.int .i64 (s : Int)) ∧ w'.cell? ⟨g, 0, none⟩ = some (.int .i64 (k : Int))) (first | go_keep)
      (first
      | (refine step_min _ (by rfl) _ _ 3 (by rfl) (n : Int) ((s : Int) + (k : Int)) (E : Int) (by rfl) (by rfl) hmin ?_)
      | (go_at_call 20; with_reducible refine Calls.mono (HK.out _ ?_) ?_; (focus (first | exact ⟨rfl, rfl, rfl, Nat.le_refl _, fun _ _ => rfl⟩ | exact HBd.out)); rintro e w3 ⟨rfl, j, rfl⟩))
    all_goals
      clear HK
      go_wp2
      go_ret
      refine HT.out.2.2 _ _ ?_ (Nat.le_refl _) ?_
      · first | exact ((below_drewN (Below.refl _ W1) _).alloc (Nat.le_refl _) _).setCell (p := ⟨W1.heap.size, 0, none⟩) (Nat.le_refl _) _ | exact (below_drewN (balloc W1 _) _).setCell (p := ⟨W1.heap.size, 0, none⟩) (Nat.le_refl _) _
      · first | exact World.cell?_setCell_same _ _ _ (b1 _) | exact World.cell?_setCell_same _ _ _ b5
  | true =>
    rw [if_pos rfl] at hFq
    subst hFq
    obtain ⟨W1, hW⟩ : ∃ W1, w.alloc (.cells #[.int .i64 (F : Int)] 3) = W1 := ⟨_, rfl⟩
    have HW : Hid (w.alloc (.cells #[.int .i64 (F : Int)] 3) = W1) := hW
    have HK := KEY W1 hW.symm
    have HT := TAIL W1 hW.symm
    obtain ⟨hg1, hg2⟩ := HT.out.1
    obtain ⟨g2, g0⟩ := HT.out.2.1
    have bx : ∀ W : World, W.heap.size = W1.heap.size → (W.alloc (.cells #[.int .i64 0] 3)).cell? ⟨W1.heap.size, 0, none⟩ = some (.int .i64 0) ∧ (W.alloc (.cells #[.int .i64 0] 3)).frozen? ⟨W1.heap.size, 0, none⟩ = false := fun W e => by
      rw [← e]
      exact ⟨by simp, by simp⟩
    have b1 := fun j => (bx (W1.drewN j) rfl).1
    have b2 := fun j => (bx (W1.drewN j) rfl).2
    have b3 := (bx W1.drew rfl).1
    have b4 := (bx W1.drew rfl).2
    have b5 := (bx W1 rfl).1
    have b6 := (bx W1 rfl).2
    have HBx : Hid (∀ W : World, W.heap.size = W1.heap.size → (W.alloc (.cells #[.int .i64 0] 3)).cell? ⟨W1.heap.size, 0, none⟩ = some (.int .i64 0) ∧ (W.alloc (.cells #[.int .i64 0] 3)).frozen? ⟨W1.heap.size, 0, none⟩ = false) := bx
    clear bx
    have HBd : Hid (Below W1.heap.size W1 (W1.alloc (.cells #[.int .i64 0] 3)).drew) := below_drewN (balloc W1 (.cells #[.int .i64 0] 3)) 1
    clear KEY HH hW TAIL
    have hmin : (if (F : Int) + (k : Int) < (n : Int) then (F : Int) + (k : Int) else (n : Int)) = (E : Int) := by have := HE.out; split <;> omega
    go_enter Try.func22, Try.ntmps22
    go_wp2_with fail
    rw [HW.out]
    clear c2 c0 c3 c8
    go_region_held3 (fun w' => w'.cell? ⟨g, 2, none⟩ = some (.int .i64 (F : Int)) ∧ w'.cell? ⟨g, 0, none⟩ = some (.int .i64 (k : Int))) (first | go_keep)
      (first
      | (refine step_min _ (by rfl) _ _ 3 (by rfl) (n : Int) ((F : Int) + (k : Int)) (E : Int) (by rfl) (by rfl) hmin ?_)
      | (go_at_call 20; with_reducible refine Calls.mono (HK.out _ ?_) ?_; (focus (first | exact ⟨rfl, rfl, rfl, Nat.le_refl _, fun _ _ => rfl⟩ | exact HBd.out)); rintro e w3 ⟨rfl, j, rfl⟩))
    all_goals
      clear HK
      go_wp2
      go_ret
      refine HT.out.2.2 _ _ ?_ (Nat.le_refl _) ?_
      · first | exact ((below_drewN (Below.refl _ W1) _).alloc (Nat.le_refl _) _).setCell (p := ⟨W1.heap.size, 0, none⟩) (Nat.le_refl _) _ | exact (below_drewN (balloc W1 _) _).setCell (p := ⟨W1.heap.size, 0, none⟩) (Nat.le_refl _) _
      · first | exact World.cell?_setCell_same _ _ _ (b1 _) | exact World.cell?_setCell_same _ _ _ b5

/-- A number that is handed out. -/
abbrev DueX (F E : Nat) := { x : Nat // F ≤ x ∧ x < E }
/-- The numbers from F on, k of them. -/
def Runs {F E : Nat} (k : Nat) (xs : List (DueX F E)) : Prop := xs.map (fun x => x.1) = List.range' F k
theorem Runs.nil (F E : Nat) : Runs (F := F) (E := E) 0 [] := rfl
theorem Runs.snoc {F E k : Nat} {xs : List (DueX F E)} (h : Runs k xs) (x : DueX F E) (hx : x.1 = F + k) : Runs (k + 1) (xs ++ [x]) := by
  unfold Runs at h ⊢
  rw [List.map_append, h, List.range'_concat]
  simp [hx]
theorem Runs.len {F E k : Nat} {xs : List (DueX F E)} (h : Runs k xs) : xs.length = k := by
  have := congrArg List.length h
  simpa using this
/-- What the numbers are read from stays. -/
def KpDue (B1 B2 : Nat) (A B : World) : Prop := B.cell? ⟨B1, 0, none⟩ = A.cell? ⟨B1, 0, none⟩ ∧ B.cell? ⟨B2, 0, none⟩ = A.cell? ⟨B2, 0, none⟩

set_option maxRecDepth 100000 in
set_option maxHeartbeats 2000000 in
/-- The numbers that are handed out, for every loop body that keeps the two variables. -/
theorem due_stops (m : Nat) (hm : 1 ≤ m) (B1 B2 F E : Nat) (w : World) (hFE : F ≤ E) (hE : E ≤ 1073741824) (h1 : w.cell? ⟨B1, 0, none⟩ = some (.int .i64 (F : Int))) (h2 : w.cell? ⟨B2, 0, none⟩ = some (.int .i64 (E : Int))) :
    SeqStopsK Fence.wide m Try.prog 42 #[.pointer (some ⟨B1, 0, none⟩), .pointer (some ⟨B2, 0, none⟩)] (fun x : DueX F E => #[.int .i64 (x.1 : Int)]) (KpDue B1 B2)
      (fun xs => Runs (E - F) xs) (fun _ => True) 1073741825 w := fun l J Jx W hW hJ hJx hY h0 => by
  have c1 : W.cell? ⟨B1, 0, none⟩ = some (.int .i64 (F : Int)) := bkeep hW h1 rfl
  have c2 : W.cell? ⟨B2, 0, none⟩ = some (.int .i64 (E : Int)) := bkeep hW h2 rfl
  clear hW hJ hJx h1 h2
  refine callsIn_of_wp Try.func42 rfl trivial ?_ rfl
  simp only [Try.ntmps42, List.size_toArray, List.length_cons, List.length_nil, Nat.reduceAdd, Nat.reduceSub, Array.replicate_succ, Array.replicate_zero, List.push_toArray, List.append_toArray, List.nil_append, List.cons_append]
  gi_wp2
  gi_loopw [4] (fun dv wr => ∃ (k : Nat) (pre : List (DueX F E)), dv = .int .i64 (k : Int) ∧ (F ≤ k ∧ k ≤ E) ∧ Hid (Runs (k - F) pre) ∧ wr.cell? ⟨B2, 0, none⟩ = some (.int .i64 (E : Int)) ∧ J pre wr)
    (fun dv _ => 1099511627777 - (intOf dv).toNat)
  case atStart => exact ⟨F, [], rfl, ⟨Nat.le_refl _, hFE⟩, by rw [Nat.sub_self]; exact Runs.nil F E, c2, h0⟩
  case round =>
    obtain ⟨k, pre, rfl, ⟨hk1, hk2⟩, HR, hc, hJs⟩ := hrel
    clear c1 c2 h0
    by_cases hlt : k < E
    · have hlti : (k : Int) < (E : Int) := by omega
      have hlen := HR.out.len
      have HS : Hid (Runs (k + 1 - F) (pre ++ [(⟨k, by omega⟩ : DueX F E)])) := by
        show Runs _ _
        rw [show k + 1 - F = (k - F) + 1 by omega]
        exact HR.out.snoc _ (by show k = F + (k - F); omega)
      obtain ⟨fn, tmps, assign, body, hy, hRd⟩ := hY pre ⟨k, by omega⟩ wr hJs (by omega)
      dsimp only at hy
      clear hJs HR hlen
      gi_wp2
      refine hRd.mono ?_
      rintro e W3 (⟨rfl, hJ3, hk3⟩ | ⟨rfl, hJx3⟩)
      · have hc3 : W3.cell? ⟨B2, 0, none⟩ = some (.int .i64 (E : Int)) := hk3.2.trans hc
        clear hRd hy hY hc
        gi_wp2
        go_roundw
        case rel => exact ⟨k + 1, pre ++ [⟨k, by omega⟩], by go_num, ⟨by omega, by omega⟩, HS, hc3, hJ3⟩
        case measure => simp [intOf]; omega
      · clear hRd hy hY
        gi_wp2
        refine bodyPost_ret (results_none rfl _ _ _) rfl ?_
        exact ⟨⟨_, rfl⟩, .inr ⟨_, trivial, hJx3⟩⟩
    · obtain rfl : k = E := by omega
      have hdd : decide ((k : Int) < (k : Int)) = false := decide_eq_false (by omega)
      clear hY
      gi_wp2
      go_end0
      exact ⟨⟨_, rfl⟩, .inl ⟨pre, HR.out, hJs⟩⟩
end Go.Proofs.Ytnbdbahfekneoab
