/-
  The document's Decode (wire): the four numbers. Written by mk/ref12g.py.
  The document's Decode (wire): the message's variable, its lists. Written by mk/ref12g.py.
  The document's Decode (wire): the natural numbers. Written by mk/ref12g.py.
  The document's Decode (wire): Encode again, and the end. Written by mk/ref12g.py.
  The document's Decode (wire): its beginning. Written by mk/ref12g.py.
  The contract of the document's Decode (wire), put together.
  What stage 12's laws ask of the program's functions; a party is ready.
-/
import Derived.Test.YtnbdbahfekneoabW12B
import Derived.Test.YtnbdbahfekneoabBytB
import Derived.Test.YtnbdbahfekneoabR12D
namespace Go.Proofs.Ytnbdbahfekneoab
open Go.RowKit

/-- Four numbers in an array. -/
def arr4 (ns : List Nat) : Array Value := #[.int .i64 ((ns.getD 0 0 : Nat) : Int), .int .i64 ((ns.getD 1 0 : Nat) : Int), .int .i64 ((ns.getD 2 0 : Nat) : Int), .int .i64 ((ns.getD 3 0 : Nat) : Int)]
theorem arr4_snoc {ns : List Nat} (n : Nat) (h : ns.length < 4) : (arr4 ns).setIfInBounds ns.length (.int .i64 (n : Int)) = arr4 (ns ++ [n]) := by
  match ns, h with
  | [], _ => rfl
  | [_], _ => rfl
  | [_, _], _ => rfl
  | [_, _, _], _ => rfl
theorem arr4_get {ns : List Nat} {i : Nat} (h : i < 4) : (arr4 ns)[i]? = some (.int .i64 ((ns.getD i 0 : Nat) : Int)) := by
  have : i = 0 ∨ i = 1 ∨ i = 2 ∨ i = 3 := by omega
  rcases this with rfl | rfl | rfl | rfl <;> rfl

end Go.Proofs.Ytnbdbahfekneoab

namespace Go.Proofs.Ytnbdbahfekneoab
open Go.RowKit

end Go.Proofs.Ytnbdbahfekneoab

namespace Go.Proofs.Ytnbdbahfekneoab
open Go.RowKit

theorem NOwn.notP {w : World} {base : Nat} {v : Value} {ns : List (List Int)} (h : NOwn w base v ns) : ∀ b, v.ownBlock = some b → ¬ Plain w b := fun b e => by
  obtain ⟨vs, ⟨_, ⟨rfl, _⟩ | ⟨g, cap, cur, rfl, _, hg, _⟩⟩, _⟩ := h
  · cases e
  · cases e
    exact not_plain hg (by decide) (by decide) (by decide)
theorem Try.infoN : (Try.prog.info? 53).map (fun i => (i.zero, i.size, i.bytes)) = some (some (.slice none 0 0), 1, 24) := by kernel_rfl
theorem wpList_appN1 (w : World) {ops : Array Oper} {rest : List Oper} {o : Oper} {a : Act} {Q : Exit → Act → World → Prop} (hgd : o.guard = none) (s x : Operand) (t : TypeId)
    (ho : o.op = .call { callee := .builtin .append, args := #[s, x], argTypes := #[t, t] }) (ht : Try.prog.underlying t = some (.slice 53))
    (base : Nat) (v : Value) (ns : List (List Int)) (hs : a.eval s = v) (hown : NOwn w base v ns) (ad : Addr) (p : Option Addr) (l c : Nat) (zs : List Int) (hx : a.eval x = .slice (some ad) 1 1) (hc : w.cell? ad = some (.slice p l c)) (hz : NumG w p l c zs)
    (hlen : ns.length < 1000000) (hbase : base ≤ w.heap.size)
    (h : ∀ v' w', NOwn w' base v' (ns ++ [zs]) → w.grownBy w' v.ownBlock → wpList Try.prog ops Q rest (a.put o.dst v') w') : wpList Try.prog ops Q (o :: rest) a w := by
  obtain ⟨i0, hi, hz0, hz1, hz2⟩ := info_parts Try.infoN
  have hnp := hown.notP
  obtain ⟨vs, h1, h2⟩ := hown
  have hvl : vs.length = ns.length := by have := h1.1; omega
  refine wpList_append_own w hgd s x t ho base 53 i0 (.slice none 0 0) 1 24 ht hi hz0 hz1 hz2 rfl (by decide) v ns.length vs hs h1 ad 1 1 [.slice p l c] hx rfl ?_ ?_ ?_ ?_ hbase ?_
  · intro j u hj
    match j, hj with
    | 0, hj =>
      simp at hj; subst hj
      obtain ⟨b, off, spot⟩ := ad
      have hspot : spot = none := World.cell?_spot hc
      subst hspot
      rw [Addr.add_lit]; exact hc
  · intro u hu; simp at hu; subst hu; rfl
  · unfold maxLen; omega
  · omega
  · intro v' w' k1 k2 _
    have kk : Kp w w' := Kp.grown k2 hnp
    refine h v' w' ⟨vs ++ [.slice p l c], by simpa using k1, fun i hi => ?_⟩ k2
    by_cases q : i < ns.length
    · obtain ⟨p', l', c', e, hn⟩ := h2 i q
      refine ⟨p', l', c', by rw [List.getElem?_append_left (by omega)]; exact e, ?_⟩
      rw [show (ns ++ [zs]).getD i [] = ns.getD i [] by unfold List.getD; rw [List.getElem?_append_left q]]
      exact hn.kp kk
    · obtain rfl : i = ns.length := by simp at hi; omega
      refine ⟨p, l, c, by rw [List.getElem?_append_right (by omega), hvl]; simp, ?_⟩
      rw [show (ns ++ [zs]).getD ns.length [] = zs by simp [List.getD]]
      exact hz.kp kk
theorem NOwn.low {w w' : World} {base : Nat} {v : Value} {ns : List (List Int)} (h : NOwn w base v ns) (hg : w.grownBy w' v.ownBlock) (hb : base ≤ w.heap.size) : Below base w w' := by
  obtain ⟨vs, h1, _⟩ := h
  exact ⟨hg.os, hg.tape, hg.output, hg.size, fun k hk => hg.block k (Nat.lt_of_lt_of_le hk hb) (fun e => by have := (World.ownsRow.lt h1 k e.symm).1; omega)⟩
theorem ResBytR.at {c b R L : List Int} {most err : Int} {ys R' : List Int} (h : ResBytR L most ys err R') (hc : IsCode c b.length) (hn : (b.length : Int) ≤ most) (hb : b.length < 18446744073709551616) (hL : L = c ++ (b ++ R)) : ys = b ∧ err = 0 ∧ R' = R := by
  subst hL
  refine h.unique ⟨b.length, c.length, NextT.of_code hc hb, .inr ⟨fun e => ?_, by simp, rfl, by simp⟩⟩
  rcases e with e | e | e | e
  · exact hc.nonempty (List.eq_nil_of_length_eq_zero e)
  · omega
  · omega
  · simp at e
    omega

end Go.Proofs.Ytnbdbahfekneoab

namespace Go.Proofs.Ytnbdbahfekneoab
open Go.RowKit

theorem strOf_list12 (bs : List Int) : (strOf bs).data.toList = bs.map (fun n => UInt8.ofNat n.toNat) := by
  have h : ∀ (bs : List Int) (r : ByteArray), (bs.foldl (fun r n => r.push (UInt8.ofNat n.toNat)) r).data.toList = r.data.toList ++ bs.map (fun n => UInt8.ofNat n.toNat) := by
    intro bs
    induction bs with
    | nil => intro r; simp
    | cons b bs ih =>
      intro r
      rw [List.foldl_cons, ih]
      simp [ByteArray.push]
  have := h bs ByteArray.empty
  simpa [strOf] using this
theorem strOf_inj12 {xs ys : List Int} (hx : Digs 256 xs) (hy : Digs 256 ys) (h : strOf xs = strOf ys) : xs = ys := by
  have h1 := congrArg (fun s => s.data.toList) h
  simp only [strOf_list12] at h1
  have hl := congrArg List.length h1
  simp at hl
  refine List.ext_getElem hl (fun i h2 h3 => ?_)
  have h4 := congrArg (fun l => l[i]?) h1
  simp [h2, h3] at h4
  have a1 := hx xs[i] (List.getElem_mem h2)
  have a2 := hy ys[i] (List.getElem_mem h3)
  have h5 := congrArg UInt8.toNat h4
  simp at h5
  omega

end Go.Proofs.Ytnbdbahfekneoab

namespace Go.Proofs.Ytnbdbahfekneoab
open Go.RowKit

end Go.Proofs.Ytnbdbahfekneoab

namespace Go.Proofs.Ytnbdbahfekneoab
open Go.RowKit

theorem top_right {l : List Int} (r : rightB l = true) : Top l ∧ l.length ≤ 64 := by
  unfold rightB at r
  simp at r
  refine ⟨?_, r.1⟩
  rcases r.2 with e | e
  · exact .inl e
  · exact .inr e
theorem natbytes_len {zs bs : List Int} (h : ResBytes zs bs) (r : rightB zs = true) (hl : zs.length ≤ 4) (d : Digs 18446744073709551616 zs) : bs.length ≤ 32 := by
  unfold ResBytes at h
  rw [if_pos r] at h
  have h1 : val 256 bs.reverse < 256 ^ 32 := by
    rw [h.2.2]
    have := val_lt_pow (B := 18446744073709551616) (by decide) d hl
    have e : (18446744073709551616 : Int) ^ 4 = 256 ^ 32 := by decide
    omega
  have := len_le (B := 256) (by decide) (zs := bs.reverse) (fun x hx => h.1 x (List.mem_reverse.1 hx)) h.2.1 h1
  simpa using this
theorem nat_again {zs bs ls : List Int} {er : Int} (h : ResBytes zs bs) (r : rightB zs = true) (d : Digs 18446744073709551616 zs) (k : Res (val 256 bs.reverse) ls er) : ls = zs := by
  unfold ResBytes at h
  rw [if_pos r] at h
  rw [h.2.2] at k
  exact (k.unique (.inl ⟨rfl, d, (top_right r).1, (top_right r).2, rfl⟩)).1
/-- A message's bytes, part by part. -/
theorem msg_parts {k a b c : Int} {ids rows : List Int} {nats : List (List Int)} {L : List Int} (r : RightM k a b c ids rows nats) (d : DigsN nats) (h : IsMsg k a b c ids rows nats L) :
    ∃ bss y0 y1 y2 y3, NatsB nats bss ∧ (CodesOf [k.toNat, a.toNat, b.toNat, c.toNat] y0 ∧ L = y0 ++ (y1 ++ (y2 ++ y3)) ∧ ∀ m, m ∈ [k.toNat, a.toNat, b.toNat, c.toNat] → m ≤ 1073741824) ∧ (IsLst (nat0 ids) y1 ∧ (nat0 ids).length ≤ 16384 ∧ ∀ m, m ∈ nat0 ids → m ≤ 1073741824) ∧ (IsLst (nat0 rows) y2 ∧ (nat0 rows).length ≤ 16384 ∧ ∀ m, m ∈ nat0 rows → m ≤ 1073741824) ∧ (IsBlobs bss y3 ∧ bss.length ≤ 16384 ∧ ∀ e, e ∈ bss → e.length ≤ 32) := by
  obtain ⟨bss, hB, y0, y1, y2, y3, h0, h1, h2, h3, e⟩ := h
  have p1 := r.p1
  have p4 := r.p4
  refine ⟨bss, y0, y1, y2, y3, hB, ⟨h0, e, fun m hm => ?_⟩, ⟨h1, by rw [nat0_len]; omega, nat0_le r.p6⟩, ⟨h2, by rw [nat0_len]; omega, nat0_le (fun i hi => ⟨(r.p7 i hi).1, (r.p7 i hi).2.1⟩)⟩, ⟨h3, by rw [hB.1]; omega, fun x hx => ?_⟩⟩
  · simp at hm
    omega
  · obtain ⟨i, hi, rfl⟩ := List.getElem_of_mem hx
    have hi2 : i < nats.length := by rw [← hB.1]; exact hi
    have q := hB.2 i hi2
    rw [show bss.getD i [] = bss[i] by simp [List.getD, hi]] at q
    exact natbytes_len q (r.p8 i hi2).1 (r.p8 i hi2).2 (d i hi2)
theorem put7_below {B : Nat} {w0 w : World} (h : Below B w0 w) {G : Nat} (hG : B ≤ G) (x0 x1 x2 x3 x4 x5 x6 : Value) : Below B w0 (((((((w.setCell ⟨G, 0, none⟩ x0).setCell ⟨G, 1, none⟩ x1).setCell ⟨G, 2, none⟩ x2).setCell ⟨G, 3, none⟩ x3).setCell ⟨G, 4, none⟩ x4).setCell ⟨G, 5, none⟩ x5).setCell ⟨G, 6, none⟩ x6) :=
  ((((((h.setCell (p := ⟨G, 0, none⟩) hG x0).setCell (p := ⟨G, 1, none⟩) hG x1).setCell (p := ⟨G, 2, none⟩) hG x2).setCell (p := ⟨G, 3, none⟩) hG x3).setCell (p := ⟨G, 4, none⟩) hG x4).setCell (p := ⟨G, 5, none⟩) hG x5).setCell (p := ⟨G, 6, none⟩) hG x6
theorem put7_grown (w : World) (G : Nat) (x0 x1 x2 x3 x4 x5 x6 : Value) : w.grownBy (((((((w.setCell ⟨G, 0, none⟩ x0).setCell ⟨G, 1, none⟩ x1).setCell ⟨G, 2, none⟩ x2).setCell ⟨G, 3, none⟩ x3).setCell ⟨G, 4, none⟩ x4).setCell ⟨G, 5, none⟩ x5).setCell ⟨G, 6, none⟩ x6) (some G) :=
  grown_then (grown_then (grown_then (grown_then (grown_then (grown_then (grown_set w G 0 x0) (grown_set _ G 1 x1)) (grown_set _ G 2 x2)) (grown_set _ G 3 x3)) (grown_set _ G 4 x4)) (grown_set _ G 5 x5)) (grown_set _ G 6 x6)
theorem MsgAt.set4 {w : World} {g : Nat} {k a b c : Int} {pi pr pn : Option Addr} {li ci lr cr ln cn : Nat} (h : MsgAt w g k a b c pi li ci pr lr cr pn ln cn) (p : Option Addr) (l m : Nat) : MsgAt (w.setCell ⟨g, 4, none⟩ (.slice p l m)) g k a b c p l m pr lr cr pn ln cn := by
  have := heap_setCell_same w g 4 _ _ (.slice p l m) h
  simpa [MsgAt] using this
theorem MsgAt.set5 {w : World} {g : Nat} {k a b c : Int} {pi pr pn : Option Addr} {li ci lr cr ln cn : Nat} (h : MsgAt w g k a b c pi li ci pr lr cr pn ln cn) (p : Option Addr) (l m : Nat) : MsgAt (w.setCell ⟨g, 5, none⟩ (.slice p l m)) g k a b c pi li ci p l m pn ln cn := by
  have := heap_setCell_same w g 5 _ _ (.slice p l m) h
  simpa [MsgAt] using this

end Go.Proofs.Ytnbdbahfekneoab

namespace Go.Proofs.Ytnbdbahfekneoab
open Go.RowKit

/-- A message as an argument. -/
abbrev msgV (k a b c : Int) (pi : Option Addr) (li ci : Nat) (pr : Option Addr) (lr cr : Nat) (pn : Option Addr) (ln cn : Nat) : Value := .agg #[.int .i64 k, .int .i64 a, .int .i64 b, .int .i64 c, .slice pi li ci, .slice pr lr cr, .slice pn ln cn]
def RgtOk12 : Prop := ∀ (k a b c : Int) (pi : Option Addr) (li ci : Nat) (pr : Option Addr) (lr cr : Nat) (pn : Option Addr) (ln cn : Nat) (ids rows : List Int) (nats : List (List Int)) (w : World), MsgIn w k a b c pi li ci pr lr cr pn ln cn ids rows nats → Calls Try.prog 13 #[.agg #[.int .i64 k, .int .i64 a, .int .i64 b, .int .i64 c, .slice pi li ci, .slice pr lr cr, .slice pn ln cn]] w fun e w' => RgtT k a b c ids rows nats w e w'
def EncOk12 : Prop := ∀ (k a b c : Int) (pi : Option Addr) (li ci : Nat) (pr : Option Addr) (lr cr : Nat) (pn : Option Addr) (ln cn : Nat) (ids rows : List Int) (nats : List (List Int)) (w : World), MsgIn w k a b c pi li ci pr lr cr pn ln cn ids rows nats → Calls Try.prog 5 #[.agg #[.int .i64 k, .int .i64 a, .int .i64 b, .int .i64 c, .slice pi li ci, .slice pr lr cr, .slice pn ln cn]] w fun e w' => WireT k a b c ids rows nats w e w'
def DecOk12 : Prop := ∀ (b : Option Addr) (lb cb : Nat) (L : List Int) (w : World), Byts w b lb cb L → (b = none → cb = 0) → lb ≤ 140737488355300 → Calls Try.prog 11 #[.slice b lb cb] w fun e w' => MDecT L w e w'

theorem MsgIn.small (w : World) (k a b c : Int) (h : (-9223372036854775808 ≤ k ∧ k < 9223372036854775808) ∧ (-9223372036854775808 ≤ a ∧ a < 9223372036854775808) ∧ (-9223372036854775808 ≤ b ∧ b < 9223372036854775808) ∧ -9223372036854775808 ≤ c ∧ c < 9223372036854775808) : MsgIn w k a b c none 0 0 none 0 0 none 0 0 [] [] [] :=
  ⟨Lsts.nil _, Lsts.nil _, NRow.nil _, h, ⟨Nat.zero_le _, Nat.zero_le _, Nat.zero_le _⟩, ⟨fun _ => rfl, fun _ => rfl, fun _ => rfl⟩⟩
theorem msg_242 : RightM 2 4 2 0 [] [] [] ∧ IsMsg 2 4 2 0 [] [] [] [2, 4, 2, 0, 0, 0, 0] := by
  refine ⟨⟨by decide, by decide, by decide, by decide, by decide, fun i hi => by simp at hi, fun i hi => by simp at hi, fun i hi => by simp at hi⟩, [], ⟨rfl, fun i hi => by simp at hi⟩, ?_⟩
  have z0 : IsLst [] [0] := ⟨[0], [], ⟨rfl, by decide⟩, rfl, rfl⟩
  have b0 : IsBlobs [] [0] := ⟨[0], [], ⟨rfl, by decide⟩, rfl, rfl⟩
  exact ⟨[2, 4, 2, 0], [0], [0], [0], ⟨[2], [4, 2, 0], ⟨rfl, by decide⟩, ⟨[4], [2, 0], ⟨rfl, by decide⟩, ⟨[2], [0], ⟨rfl, by decide⟩, ⟨[0], [], ⟨rfl, by decide⟩, rfl, rfl⟩, rfl⟩, rfl⟩, rfl⟩, z0, z0, b0, rfl⟩
theorem wire_242 {ys : List Int} {err : Int} (h : ResWire 2 4 2 0 [] [] [] ys err) : ys = [2, 4, 2, 0, 0, 0, 0] ∧ err = 0 :=
  h.unique (.inl ⟨msg_242.1, msg_242.2, by decide, rfl⟩)
theorem byts_242 (w : World) : Byts (w.alloc (.cells #[.int .u8 2, .int .u8 4, .int .u8 2, .int .u8 0, .int .u8 0, .int .u8 0, .int .u8 0] 5)) (some ⟨w.heap.size, 0, none⟩) 7 7 [2, 4, 2, 0, 0, 0, 0] := by
  refine BBlk.byts ⟨_, heap_alloc_new w _, ?_⟩ (fun x hx => by simp at hx; omega) rfl (by decide)
  rfl
end Go.Proofs.Ytnbdbahfekneoab
