/-
  The contract of the document's Encode (wire).
  The contract of the document's readList (wire).
  Contracts of the document's SameInts, SameNats and Same (wire).
  What a decoding keeps in memory: lists and natural numbers lie in blocks of their own kind; a message's variable.
  Messages that are handed in: how they lie in memory.
-/
import Derived.Test.YtchmlfjjgehbkaaGreatR12D
import Derived.Test.YtchmlfjjgehbkaaGreatW12A
import Derived.Laws.NewBlocks
import Derived.BigQuiet
import Derived.Deep.RegionHeld3
import Derived.Deep.DeepCutAuto
import Derived.Lib.SmallJoins
import Derived.SizedLaws
import Derived.ChangeSlices
import Derived.WideShapes
namespace Go.Proofs.YtchmlfjjgehbkaaGreat
open Go.RowKit

theorem Lsts.lit4 (w : World) (x y z u : Int) (h : ∀ v, v ∈ [x, y, z, u] → -9223372036854775808 ≤ v ∧ v < 9223372036854775808) : Lsts (w.alloc (.cells #[.int .i64 x, .int .i64 y, .int .i64 z, .int .i64 u] 3)) (some ⟨w.heap.size, 0, none⟩) 4 4 [x, y, z, u] := by
  refine ⟨rfl, Nat.le_refl _, by unfold maxLen; omega, fun _ => ⟨w.heap.size, 0, rfl, fun i hi => ?_⟩, h⟩
  have : i = 0 ∨ i = 1 ∨ i = 2 ∨ i = 3 := by omega
  rcases this with rfl | rfl | rfl | rfl <;> simp
theorem lst_digs : ∀ {l : List Nat} {ys : List Int}, CodesOf l ys → Digs 256 ys
  | [], ys, h => by
    have e : ys = [] := h
    rw [e]
    intro x hx
    cases hx
  | n :: l, ys, ⟨c, r, h1, h2, e⟩ => by
    rw [e]
    exact h1.digs.app9 (lst_digs h2)
theorem lst_len {l : List Nat} {ys : List Int} (h : IsLst l ys) (hl : l.length ≤ 16384) (hb : ∀ n, n ∈ l → n ≤ 1073741824) : ys.length ≤ 163850 ∧ Digs 256 ys := by
  obtain ⟨c, r, h1, h2, rfl⟩ := h
  have k1 := code_10 h1 (by omega)
  have k2 := codes_len h2 (fun n hn => by have := hb n hn; omega)
  exact ⟨by simp; omega, h1.digs.app9 (lst_digs h2)⟩
theorem blobs_digs : ∀ {l : List (List Int)} {ys : List Int}, BlobsOf l ys → (∀ b, b ∈ l → Digs 256 b) → Digs 256 ys
  | [], ys, h, _ => by
    have e : ys = [] := h
    rw [e]
    intro x hx
    cases hx
  | b :: l, ys, ⟨c, r, h1, h2, e⟩, hb => by
    rw [e]
    exact h1.digs.app9 ((hb b (List.mem_cons_self ..)).app9 (blobs_digs h2 (fun d hd => hb d (List.mem_cons_of_mem _ hd))))

end Go.Proofs.YtchmlfjjgehbkaaGreat

namespace Go.Proofs.YtchmlfjjgehbkaaGreat
open Go.RowKit

theorem IOwn.fresh {w : World} {base : Nat} {v : Value} {xs : List Int} (h : IOwn w base v xs) (hd : ∀ x, x ∈ xs → -9223372036854775808 ≤ x ∧ x < 9223372036854775808) : ∃ a cap, v = .slice a xs.length cap ∧ Lsts w a xs.length cap xs ∧ (a = none → cap = 0) ∧ ∀ ad, a = some ad → base ≤ ad.block ∧ ∃ cur, w.heap[ad.block]? = some (.cells cur 3 (0, 0)) := by
  obtain ⟨a, cap, e, h1, h2⟩ := h.lsts hd
  refine ⟨a, cap, e, h1, h2, fun ad ea => ?_⟩
  refine ⟨(World.ownsRow.lt h ad.block (by rw [e, ea]; rfl)).1, ?_⟩
  obtain ⟨_, ⟨e2, _⟩ | ⟨g, c, cur, e2, _, e3, _⟩⟩ := h
  · rw [e, ea] at e2
    simp at e2
  · rw [e, ea] at e2
    simp at e2
    rw [e2.1]
    exact ⟨cur, e3⟩
theorem below_of_own {w w' : World} {base : Nat} {v : Value} {xs : List Int} (h : IOwn w base v xs) (hg : w.grownBy w' v.ownBlock) (hb : base ≤ w.heap.size) : Below base w w' :=
  ⟨hg.os, hg.tape, hg.output, hg.size, fun k hk => hg.block k (Nat.lt_of_lt_of_le hk hb) (fun e => by have := (World.ownsRow.lt h k e.symm).1; omega)⟩
theorem grown_low {w w1 w2 : World} {g : Nat} (h : w.grownBy w1 (some g)) (h2 : Below w.heap.size w1 w2) : w.grownBy w2 (some g) := ⟨h2.os.trans h.os, h2.tape.trans h.tape, h2.output.trans h.output, Nat.le_trans h.size h2.size, fun k hk hne => (h2.block k hk).trans (h.block k hk hne)⟩
theorem grown_then {w w1 w2 : World} {g : Nat} (h : w.grownBy w1 (some g)) (h2 : w1.grownBy w2 (some g)) : w.grownBy w2 (some g) := ⟨h2.os.trans h.os, h2.tape.trans h.tape, h2.output.trans h.output, Nat.le_trans h.size h2.size, fun k hk hne => (h2.block k (Nat.lt_of_lt_of_le hk h.size) hne).trans (h.block k hk hne)⟩
theorem ResNum.at {c R L : List Int} {n m most : Nat} {err : Int} {R' : List Int} (h : ResNum L most m err R') (hc : IsCode c n) (hn : n ≤ most) (hb : n < 18446744073709551616) (hL : L = c ++ R) : m = n ∧ err = 0 ∧ R' = R := by
  subst hL
  exact h.unique (read_codes hc hb hn)
theorem ints_snoc (ns : List Nat) (n : Nat) : ints (ns ++ [n]) = ints ns ++ [(n : Int)] := by simp [ints]
theorem ResNum.most {L : List Int} {most n : Nat} {err : Int} {R : List Int} (h : ResNum L most n err R) : n ≤ most := by
  obtain ⟨m, k, h1, h2⟩ := h
  rcases h2 with ⟨c, rfl, rfl, rfl⟩ | ⟨c, rfl, rfl, rfl⟩ <;> omega

end Go.Proofs.YtchmlfjjgehbkaaGreat

namespace Go.Proofs.YtchmlfjjgehbkaaGreat
open Go.RowKit

theorem bdr12 {V w : World} (h : Below V.heap.size V w) : Below V.heap.size V w.drew := ⟨h.os, h.tape, h.output, h.size, h.block⟩
theorem bgr12 {V w : World} (h : Below V.heap.size V w) (o : Obj) : Below V.heap.size V (w.alloc o) := h.alloc h.size o

set_option maxRecDepth 20000 in
set_option maxHeartbeats 1600000 in
theorem r12si_any (a b : Option Addr) (la ca lb cb : Nat) (xs ys : List Int) (w : World) (hx : Lsts w a la ca xs) (hy : Lsts w b lb cb ys) :
    Calls Tryz.prog 11 #[.slice a la ca, .slice b lb cb] w fun e w' => e = .returned (.bool (decide (xs = ys))) ∧ Below w.heap.size w w' := by
  have hm := hx.hmax
  have hc := hx.hcap
  unfold maxLen at hm
  have HL : Hid (xs.length = la ∧ ys.length = lb) := ⟨hx.hlen, hy.hlen⟩
  by_cases hl : la = lb
  case neg =>
    have hne : ((la : Int) != (lb : Int)) = true := by simp; omega
    have hne2 : ((la : Int) == (lb : Int)) = false := by simp; omega
    have HE : Hid (false = decide (xs = ys)) := (decide_eq_false (fun e => hl (by rw [← HL.out.1, ← HL.out.2, e]))).symm
    clear hx hy HL hl
    go_enter Tryz.func11, Tryz.ntmps11
    go_wp2
    go_ret
    exact ⟨ret_bool HE.out, Below.refl _ _⟩
  subst hl
  have H : Hid (Lsts w a la ca xs ∧ Lsts w b la cb ys) := ⟨hx, hy⟩
  clear hx hy
  obtain ⟨D, hD⟩ : ∃ D, D = decide (xs = ys) := ⟨_, rfl⟩
  have HD : Hid (D = decide (xs = ys)) := hD
  rw [← hD]
  clear hD
  go_enter Tryz.func11, Tryz.ntmps11
  go_wp2
  go_loopw [5] (fun v5 wr => ∃ k : Nat, k ≤ la ∧ v5 = .int .i64 k ∧ Hid (∀ j, j < k → xs.getD j 0 = ys.getD j 0) ∧ Below w.heap.size w wr) (fun v5 _ => la - (intOf v5).toNat)
  case atStart => exact ⟨0, by omega, rfl, fun j hj => by omega, Below.refl _ _⟩
  case round =>
    obtain ⟨k, hk, rfl, HE, hb⟩ := hrel
    by_cases hlt : k < la
    · have hlti : (k : Int) < (la : Int) := by omega
      obtain ⟨b1, o1, rfl, c1⟩ := (H.out.1.below hb).cells (by omega)
      obtain ⟨b2, o2, rfl, c2⟩ := (H.out.2.below hb).cells (by omega)
      replace c1 := c1 k hlt
      replace c2 := c2 k hlt
      obtain ⟨x, hx⟩ : ∃ x, x = xs.getD k 0 := ⟨_, rfl⟩
      obtain ⟨y, hy⟩ : ∃ y, y = ys.getD k 0 := ⟨_, rfl⟩
      rw [← hx] at c1
      rw [← hy] at c2
      have HX : Hid (x = xs.getD k 0 ∧ y = ys.getD k 0) := ⟨hx, hy⟩
      clear hx hy
      by_cases hxy : x = y
      · have hq : (x != y) = false := by simp [hxy]
        have HN : Hid (∀ j, j < k + 1 → xs.getD j 0 = ys.getD j 0) := fun j hj => by
          by_cases e : j = k
          · subst e
            rw [← HX.out.1, ← HX.out.2]; exact hxy
          · exact HE.out j (by omega)
        subst hxy
        clear HX HE
        go_wp2
        go_quiet (fail)
        go_wp2
        go_roundw
        case rel => exact ⟨k + 1, by omega, by go_num, HN, below_drewN hb _⟩
        case measure => simp [intOf]; omega
      · have hq : (x != y) = true := by simp [hxy]
        have hq2 : (x == y) = false := by simp [hxy]
        have HF : Hid (false = D) := by
          show _ = _
          rw [HD.out]
          exact (decide_eq_false (fun e => hxy (by rw [HX.out.1, HX.out.2, e]))).symm
        clear HX HE HD hxy
        go_wp2
        go_quiet (fail)
        go_wp2
        go_ret
        exact ⟨ret_bool HF.out, below_drewN hb _⟩
    · obtain rfl : k = la := by omega
      have HF : Hid (true = D) := by
        show _ = _
        rw [HD.out]
        exact (decide_eq_true (ext_getD (d := 0) (by rw [HL.out.1, HL.out.2]) (fun j hj => HE.out j (by rw [← HL.out.1]; exact hj)))).symm
      clear HE HD
      go_wp2
      go_ret
      exact ⟨ret_bool HF.out, hb⟩

/-- Two messages are the same. -/
def sameM (k a b c k1 a1 b1 c1 : Int) (i i1 r r1 : List Int) (n n1 : List (List Int)) : Bool := (((((((k == k1) && (a == a1)) && (b == b1)) && (c == c1)) && decide (i = i1)) && decide (r = r1)) && decide (n = n1))
theorem sameM_iff {k a b c k1 a1 b1 c1 : Int} {i i1 r r1 : List Int} {n n1 : List (List Int)} : sameM k a b c k1 a1 b1 c1 i i1 r r1 n n1 = true ↔ (k = k1 ∧ a = a1 ∧ b = b1 ∧ c = c1) ∧ i = i1 ∧ r = r1 ∧ n = n1 := by
  unfold sameM
  simp only [Bool.and_eq_true, beq_iff_eq, decide_eq_true_eq]
  constructor
  · rintro ⟨⟨⟨⟨⟨⟨h1, h2⟩, h3⟩, h4⟩, h5⟩, h6⟩, h7⟩
    exact ⟨⟨h1, h2, h3, h4⟩, h5, h6, h7⟩
  · rintro ⟨⟨h1, h2, h3, h4⟩, h5, h6, h7⟩
    exact ⟨⟨⟨⟨⟨⟨h1, h2⟩, h3⟩, h4⟩, h5⟩, h6⟩, h7⟩

end Go.Proofs.YtchmlfjjgehbkaaGreat

namespace Go.Proofs.YtchmlfjjgehbkaaGreat
open Go.RowKit

/-- Block b is one of whole numbers, of words or of bytes. -/
def Plain (w : World) (b : Nat) : Prop := ∃ cur t, w.heap[b]? = some (.cells cur t (0, 0)) ∧ (t = 3 ∨ t = 44 ∨ t = 5)
theorem Plain.lt {w : World} {b : Nat} (h : Plain w b) : b < w.heap.size := by
  obtain ⟨cur, t, h, _⟩ := h
  exact (Array.getElem?_eq_some_iff.1 h).1
/-- Such blocks stay. -/
structure Kp (w w' : World) : Prop where
  size : w.heap.size ≤ w'.heap.size
  block : ∀ b, Plain w b → w'.heap[b]? = w.heap[b]?
theorem Plain.kp {w w' : World} {b : Nat} (h : Plain w b) (k : Kp w w') : Plain w' b := by
  have e := k.block b h
  obtain ⟨cur, t, h1, h2⟩ := h
  exact ⟨cur, t, e.trans h1, h2⟩
theorem Kp.refl (w : World) : Kp w w := ⟨Nat.le_refl _, fun _ _ => rfl⟩
theorem Kp.trans {w w1 w2 : World} (h : Kp w w1) (k : Kp w1 w2) : Kp w w2 := ⟨Nat.le_trans h.size k.size, fun b hb => (k.block b (hb.kp h)).trans (h.block b hb)⟩
theorem Kp.below {w w' : World} (h : Below w.heap.size w w') : Kp w w' := ⟨h.size, fun b hb => h.block b hb.lt⟩
theorem Kp.grown {w w' : World} {r : Option Nat} (h : w.grownBy w' r) (hr : ∀ k, r = some k → ¬ Plain w k) : Kp w w' := ⟨h.size, fun b hb => h.block b hb.lt (fun e => hr b e.symm hb)⟩
theorem not_plain {w : World} {b : Nat} {cur : Array Value} {t : TypeId} {m : Nat × Nat} (h : w.heap[b]? = some (.cells cur t m)) (h1 : t ≠ 3) (h2 : t ≠ 44) (h3 : t ≠ 5) : ¬ Plain w b := by
  rintro ⟨cur', t', k1, k2⟩
  rw [h] at k1
  simp at k1
  obtain ⟨_, rfl, _⟩ := k1
  rcases k2 with e | e | e
  · exact h1 e
  · exact h2 e
  · exact h3 e
/-- A list of whole numbers in a block of such; a natural number in a block of words. -/
structure LstG (w : World) (a : Option Addr) (l c : Nat) (xs : List Int) : Prop where
  lsts : Lsts w a l c xs
  plain : ∀ ad, a = some ad → 0 < l → Plain w ad.block
theorem LstG.kp {w w' : World} {a : Option Addr} {l c : Nat} {xs : List Int} (h : LstG w a l c xs) (k : Kp w w') : LstG w' a l c xs :=
  ⟨⟨h.lsts.hlen, h.lsts.hcap, h.lsts.hmax, fun hp => by
    obtain ⟨b, off, e, hc⟩ := h.lsts.cells hp
    exact ⟨b, off, e, fun i hi => (World.cell?_of_block (k.block b (h.plain _ e hp))).trans (hc i hi)⟩, h.lsts.word⟩, fun ad e hp => (h.plain ad e hp).kp k⟩
theorem LstG.nil (w : World) : LstG w none 0 0 [] := ⟨Lsts.nil _, fun _ e => (by cases e)⟩
structure NumG (w : World) (a : Option Addr) (l c : Nat) (zs : List Int) : Prop where
  nums : Nums w a l c zs
  plain : ∀ ad, a = some ad → 0 < l → Plain w ad.block
theorem NumG.kp {w w' : World} {a : Option Addr} {l c : Nat} {zs : List Int} (h : NumG w a l c zs) (k : Kp w w') : NumG w' a l c zs := by
  refine ⟨⟨h.nums.hlen, h.nums.hcap, h.nums.hmax, fun hp => ?_, h.nums.digs⟩, fun ad e hp => (h.plain ad e hp).kp k⟩
  obtain ⟨b, off, e, hc⟩ := h.nums.cells hp
  exact ⟨b, off, e, fun i hi => (World.cell?_of_block (k.block b (h.plain _ e hp))).trans (hc i hi)⟩
/-- A row of natural numbers of a call's own. -/
def NOwn (w : World) (base : Nat) (v : Value) (ns : List (List Int)) : Prop := ∃ vs : List Value, w.ownsRow base 26 1 v ns.length vs ∧ ∀ i, i < ns.length → ∃ p l c, vs[i]? = some (.slice p l c) ∧ NumG w p l c (ns.getD i [])
theorem NOwn.nil (w : World) (base : Nat) : NOwn w base (.slice none 0 0) [] := ⟨[], World.ownsRow_nil _ _ _ _, fun i hi => absurd hi (by simp)⟩
theorem NOwn.grown {w w' : World} {base : Nat} {v : Value} {ns : List (List Int)} {k : Nat} (h : NOwn w base v ns) (hg : w.grownBy w' (some k)) (hk : k < base) (hp : ¬ Plain w k) : NOwn w' base v ns := by
  obtain ⟨vs, h1, h2⟩ := h
  refine ⟨vs, World.ownsRow.kept h1 hg ?_, fun i hi => ?_⟩
  · cases e : v.ownBlock with
    | none => exact .inl rfl
    | some q =>
      right
      intro e2
      have := (World.ownsRow.lt h1 q e).1
      have := Option.some.inj e2
      omega
  · obtain ⟨p, l, c, e, hn⟩ := h2 i hi
    exact ⟨p, l, c, e, hn.kp (Kp.grown hg (fun k' e' => by cases e'; exact hp))⟩
theorem NOwn.below {w w' : World} {base : Nat} {v : Value} {ns : List (List Int)} (h : NOwn w base v ns) (hb : Below w.heap.size w w') : NOwn w' base v ns := by
  obtain ⟨vs, h1, h2⟩ := h
  refine ⟨vs, World.ownsRow.kept h1 (grown_of_below hb none) ?_, fun i hi => ?_⟩
  · cases e : v.ownBlock with
    | none => exact .inl rfl
    | some q => right; intro e2; cases e2
  · obtain ⟨p, l, c, e, hn⟩ := h2 i hi
    exact ⟨p, l, c, e, hn.kp (Kp.below hb)⟩
theorem NOwn.row {w : World} {base : Nat} {v : Value} {ns : List (List Int)} (h : NOwn w base v ns) : ∃ a c, v = .slice a ns.length c ∧ NRow w a ns.length c ns ∧ (a = none → c = 0) := by
  obtain ⟨vs, h1, h2⟩ := h
  rcases h1.2 with ⟨rfl, hn⟩ | ⟨g, cap, cur, rfl, _, hg, hnc, hcm, _, htk⟩
  · have e : ns = [] := List.eq_nil_of_length_eq_zero hn
    subst e
    exact ⟨none, 0, rfl, NRow.nil _, fun _ => rfl⟩
  · refine ⟨_, cap, rfl, ⟨rfl, hnc, hcm, fun _ => ⟨g, 0, rfl, fun i hi => ?_⟩⟩, fun e => (by cases e)⟩
    obtain ⟨p, l, c, e, hn⟩ := h2 i hi
    refine ⟨p, l, c, ?_, hn.nums⟩
    rw [Nat.zero_add, cell_of_row w g i cur _ _ hg]
    rw [← htk, List.getElem?_take] at e
    split at e
    · simpa using e
    · cases e
/-- What a call that tells the message of bytes makes. -/
def MDecT (L : List Int) (w : World) (e : Ending) (w' : World) : Prop := ∃ k a b c pi li ci pr lr cr pn ln cn ids rows nats err, e = .returned (.tuple #[.agg #[.int .i64 k, .int .i64 a, .int .i64 b, .int .i64 c, .slice pi li ci, .slice pr lr cr, .slice pn ln cn], .int .i64 err]) ∧ (Lsts w' pi li ci ids ∧ Lsts w' pr lr cr rows ∧ NRow w' pn ln cn nats) ∧ ResMsg L k a b c ids rows nats err ∧ Below w.heap.size w w'
end Go.Proofs.YtchmlfjjgehbkaaGreat

namespace Go.Proofs.YtchmlfjjgehbkaaGreat
open Go.ChangeShapes Go.WideShapes Go.RowKit

theorem int_of_wf12 {x : Int} (h : (Lit.int .i64 x).wf = true) : -9223372036854775808 ≤ x ∧ x < 9223372036854775808 := by
  simp [Lit.wf, IntKind.min, IntKind.max, IntKind.signed, IntKind.bits] at h
  exact ⟨by omega, by omega⟩
theorem Lsts.of_row {w : World} {a : Option Addr} {len cap : Nat} {zs : List Int} (h : IsRow .i64 w a len cap zs) : Lsts w a len cap (zs.take len) := by
  rcases h with ⟨rfl, rfl, rfl, rfl⟩ | ⟨x, rfl, hl, hm, hz, hcell, hwf⟩
  · exact ⟨rfl, Nat.le_refl _, Nat.zero_le _, fun h => absurd h (Nat.lt_irrefl _), fun x hx => by simp at hx⟩
  · refine ⟨by simp; omega, hl, hm, fun hp => ?_, fun y hy => int_of_wf12 (hwf y (List.mem_of_mem_take hy))⟩
    obtain ⟨b, off, spot⟩ := x
    have hc := hcell 0 (by omega)
    have hspot : spot = none := by simpa [Addr.add] using World.cell?_spot hc
    subst hspot
    refine ⟨b, off, rfl, fun i hi => ?_⟩
    have hi' := hcell i (by omega)
    rw [show (zs.take len).getD i 0 = zs.getD i 0 by simp [List.getD, hi]]
    rw [Addr.add_lit] at hi'
    exact hi'
/-- A message that was handed in lies in memory. -/
structure MsgIn (w : World) (k a b c : Int) (pi : Option Addr) (li ci : Nat) (pr : Option Addr) (lr cr : Nat) (pn : Option Addr) (ln cn : Nat) (ids rows : List Int) (nats : List (List Int)) : Prop where
  ids : Lsts w pi li ci ids
  rows : Lsts w pr lr cr rows
  nats : NRow w pn ln cn nats
  nums : (-9223372036854775808 ≤ k ∧ k < 9223372036854775808) ∧ (-9223372036854775808 ≤ a ∧ a < 9223372036854775808) ∧ (-9223372036854775808 ≤ b ∧ b < 9223372036854775808) ∧ -9223372036854775808 ≤ c ∧ c < 9223372036854775808
  few : ci ≤ 17592186044416 ∧ cr ≤ 17592186044416 ∧ cn ≤ 17592186044416
  nil : (pi = none → ci = 0) ∧ (pr = none → cr = 0) ∧ (pn = none → cn = 0)
theorem MsgIn.below {w w' : World} {k a b c : Int} {pi pr pn : Option Addr} {li ci lr cr ln cn : Nat} {ids rows : List Int} {nats : List (List Int)} (h : MsgIn w k a b c pi li ci pr lr cr pn ln cn ids rows nats) (hb : Below w.heap.size w w') : MsgIn w' k a b c pi li ci pr lr cr pn ln cn ids rows nats := ⟨h.ids.below hb, h.rows.below hb, h.nats.below hb, h.nums, h.few, h.nil⟩
theorem row_nil12 {k : IntKind} {w : World} {a : Option Addr} {len cap : Nat} {zs : List Int} (h : IsRow k w a len cap zs) : a = none → cap = 0 := by
  rcases h with ⟨_, _, h, _⟩ | ⟨x, rfl, _⟩
  · exact fun _ => h
  · exact fun e => by cases e
section
variable {H : Type} {enc : TypeId × Value → H} {W : World} {m : Nat} {c : Value} {x : DataW H × List MemPlace}
theorem open_ints12 (hf : DataW.trod enc Tryz.prog W 0 (fun _ => true) true m 38 [c] = some x) (hw : ∀ n, n ∈ x.1.weights Tryz.prog 38 → n ≤ reachBytes) : ∃ a len cap zs, c = .slice a len cap ∧ IsRow .i64 W a len cap zs ∧ cap ≤ 17592186044416 := by
  rcases open_ints Tryz.underlying38 Tryz.underlying3 (by kernel_rfl) hf with ⟨hcs, _⟩ | ⟨y, l, c, zs, hcs, _, hl, hm, hz, hx, hcell, hwz⟩
  · simp at hcs
    exact ⟨none, 0, 0, [], hcs, .inl ⟨rfl, rfl, rfl, rfl⟩, Nat.zero_le _⟩
  · simp at hcs
    have hz' : zs.length = c := by simpa using hz
    refine ⟨_, _, _, zs, hcs, .inr ⟨_, rfl, hl, hm, hz', hcell, hwz⟩, ?_⟩
    have := hw (c * Tryz.prog.bytesOf 3) (by
      rw [hx]
      unfold DataW.weights
      rw [Tryz.underlying38]
      refine List.mem_cons.2 (.inl ?_)
      congr 1
      simp [lits]
      omega)
    rw [show Tryz.prog.bytesOf 3 = 8 by kernel_rfl] at this
    unfold reachBytes at this
    omega
theorem open_nat12 (hf : DataW.trod enc Tryz.prog W 0 (fun _ => true) true m 26 [c] = some x) : ∃ a len cap zs, c = .slice a len cap ∧ IsRow .u64 W a len cap zs := by
  rcases open_ints Tryz.underlying26 Tryz.underlying44 (by kernel_rfl) hf with ⟨hcs, _⟩ | ⟨x, l, c, zs, hcs, _, hl, hm, hz, _, hcell, hwz⟩
  · simp at hcs
    exact ⟨none, 0, 0, [], hcs, .inl ⟨rfl, rfl, rfl, rfl⟩⟩
  · simp at hcs
    exact ⟨_, _, _, zs, hcs, .inr ⟨_, rfl, hl, hm, by simpa using hz, hcell, hwz⟩⟩
end
end Go.Proofs.YtchmlfjjgehbkaaGreat
