/-
  The document's end of a link: how it lies in memory; contracts of New, Tick.
  The document's end of a link: contracts of Send, Next.
  The document's end of a link: the contract of Next.
  The document's end of a link: the contract of data.
  The document's end of a link: the contract of Out.
-/
import Derived.Test.YtnbdbahfekneoabC9C
import Derived.Test.YtnbdbahfekneoabL11A
import Derived.Test.YtnbdbahfekneoabR10B
import Derived.BigQuiet
import Derived.Deep.RegionHeld3
import Derived.Deep.RegionLaw
namespace Go.Proofs.Ytnbdbahfekneoab
open Go.RowKit

/-- What is held under a number. -/
def heldAt (hs : List (Nat × List Int)) (n : Nat) : Option (List Int) := (hs.find? (fun e => e.1 == n)).map Prod.snd

/-- The cells of an end. -/
def endCells (st : LS) (v1 v4 v6 : Value) : Array Value := #[.int .i64 st.win, v1, .int .i64 st.sure, .int .i64 st.sent, v4, .int .i64 st.told, v6, .bool st.owes, .bool st.tick]
/-- What a call on an end makes of it. -/
def EndT11 (At : World → Nat → LS → (Nat → Prop) → Prop) (w : World) (g : Nat) (st : LS) (T : Nat → Prop) (w' : World) : Prop := ∃ T', At w' g st T' ∧ Only T w w' ∧ ∀ b, T' b → T b ∨ w.heap.size ≤ b

/-- What a call that makes an end makes. -/
def NewT11 (At : World → Nat → LS → (Nat → Prop) → Prop) (n : Int) (w : World) (e : Ending) (w' : World) : Prop := ((decide (1 ≤ n) && decide (n ≤ 16)) = false ∧ e = .returned (.tuple #[.pointer none, .int .i64 1]) ∧ Below w.heap.size w w') ∨ ((decide (1 ≤ n) && decide (n ≤ 16)) = true ∧ ∃ g T, e = .returned (.tuple #[.pointer (some ⟨g, 0, none⟩), .int .i64 0]) ∧ At w' g (LS.new n.toNat) T ∧ Below w.heap.size w w' ∧ (∀ b, T b → w.heap.size ≤ b))
def winB (n : Int) : Bool := decide (1 ≤ n) && decide (n ≤ 16)
end Go.Proofs.Ytnbdbahfekneoab

namespace Go.Proofs.Ytnbdbahfekneoab
open Go.RowKit

theorem Try.infoBL : (Try.prog.info? 32).map (fun i => (i.zero, i.size, i.bytes)) = some (some (.slice none 0 0), 1, 24) := by kernel_rfl
/-- One row more is appended to a row of rows. -/
theorem wp_appRow (w : World) {o : Oper} {a : Act} {K : Act → World → Prop} {Q : Exit → Act → World → Prop} (s x : Operand) (t : TypeId)
    (ho : o.op = .call { callee := .builtin .append, args := #[s, x], argTypes := #[t, t] }) (ht : Try.prog.underlying t = some (.slice 32))
    (v : Value) (vs : List Value) (n : Nat) (hs : a.eval s = v) (hown : w.ownsRow 0 32 1 v n vs) (g1 : Nat) (u : Value) (hx : a.eval x = .slice (some ⟨g1, 0, none⟩) 1 1) (hu : w.cell? ⟨g1, 0, none⟩ = some u) (hu1 : u.oneCell' = true) (hn : n ≤ 2147483648)
    (h : ∀ v' w', w'.ownsRow 0 32 1 v' (n + 1) (vs ++ [u]) → w.grownBy w' v.ownBlock → (v'.ownBlock = v.ownBlock ∨ v'.ownBlock = some w.heap.size) → K (a.put o.dst v') w') : Oper.wp Try.prog o a w K Q := by
  obtain ⟨i0, hi, hz0, hz1, hz2⟩ := info_parts Try.infoBL
  obtain ⟨v', w', hr, h2, h3, h4, h5⟩ := run_append_own_at (P := Try.prog) w 0 t o.type 32 i0 (.slice none 0 0) 1 24 ht hi hz0 hz1 hz2 rfl (by decide) v n vs hown ⟨g1, 0, none⟩ 1 1 [u] rfl (fun j q hj => by
    match j, hj with
    | 0, hj =>
      simp at hj
      subst hj
      rw [Addr.add_lit]
      exact hu) (fun q hq => by simp at hq; subst hq; exact hu1) (by unfold maxLen; omega) (by omega) (Nat.zero_le _)
  unfold Oper.wp
  simp [execOp, ho, resolve, invoke, builtin, hs, hx, hr, Result.andThen]
  exact h v' w' h2 h3 h5
theorem step_appRow (w : World) {ops : Array Oper} {o : Oper} {a : Act} {K : Act → World → Prop} {Q : Exit → Act → World → Prop} {E : Prop} (hgd : o.guard = none) (s x : Operand) (t : TypeId)
    (ho : o.op = .call { callee := .builtin .append, args := #[s, x], argTypes := #[t, t] }) (ht : Try.prog.underlying t = some (.slice 32))
    (v : Value) (vs : List Value) (n : Nat) (hs : a.eval s = v) (hown : w.ownsRow 0 32 1 v n vs) (g1 : Nat) (u : Value) (hx : a.eval x = .slice (some ⟨g1, 0, none⟩) 1 1) (hu : w.cell? ⟨g1, 0, none⟩ = some u) (hu1 : u.oneCell' = true) (hn : n ≤ 2147483648)
    (h : ∀ v' w', w'.ownsRow 0 32 1 v' (n + 1) (vs ++ [u]) → w.grownBy w' v.ownBlock → (v'.ownBlock = v.ownBlock ∨ v'.ownBlock = some w.heap.size) → K (a.put o.dst v') w') : if Region.wanted o (yielded ops a.tmps) = true then Oper.wp Try.prog o a w K Q else E := by
  rw [if_pos (by simp [Region.wanted, hgd])]
  exact wp_appRow w s x t ho ht v vs n hs hown g1 u hx hu hu1 hn h

theorem rowOwn_below {w w' : World} {base : Nat} {e : TypeId} {size : Nat} {v : Value} {n : Nat} {xs : List Value} (h : w.ownsRow base e size v n xs) (hb : Below w.heap.size w w') : w'.ownsRow base e size v n xs := World.ownsRow.kept h (grown_of_below hb none) (by cases v.ownBlock <;> simp)
theorem row_slice {w : World} {base : Nat} {e : TypeId} {size : Nat} {v : Value} {n : Nat} {xs : List Value} (h : w.ownsRow base e size v n xs) : ∃ a c, v = .slice a n c := by
  rcases h.2 with ⟨rfl, rfl⟩ | ⟨g, cap, cur, rfl, _⟩
  · exact ⟨none, 0, rfl⟩
  · exact ⟨_, _, rfl⟩
theorem EndT11.from {At : World → Nat → LS → (Nat → Prop) → Prop} {w wz w' : World} {g : Nat} {st : LS} {T : Nat → Prop} (o : Only T w wz) (h : EndT11 At wz g st T w') : EndT11 At w g st T w' := by
  obtain ⟨T', h1, h2, h3⟩ := h
  have := o.size
  exact ⟨T', h1, o.trans h2 (fun b e => .inl e), fun b e => (h3 b e).imp id (fun k => by omega)⟩
theorem EndT11.none {At : World → Nat → LS → (Nat → Prop) → Prop} {w w' : World} {g : Nat} {st : LS} {T : Nat → Prop} (h : At w' g st T) (o : Only T w w') : EndT11 At w g st T w' := ⟨T, h, o, fun _ e => .inl e⟩

end Go.Proofs.Ytnbdbahfekneoab

namespace Go.Proofs.Ytnbdbahfekneoab
open Go.RowKit

/-- The bytes are nobody else's: they lie in blocks that are new. -/
structure BytN (B : Nat) (w : World) (a : Option Addr) (l c : Nat) (bs : List Int) : Prop extends BytG w a l c bs where
  new : ∀ ad, a = some ad → 0 < l → B ≤ ad.block
/-- What a call that tells the next message makes. -/
def NextT11 (At : World → Nat → LS → (Nat → Prop) → Prop) (w : World) (g : Nat) (st : LS) (T : Nat → Prop) (e : Ending) (w' : World) : Prop :=
  (st.all.length ≤ st.told ∧ e = .returned (.tuple #[.slice none 0 0, .bool false]) ∧ EndT11 At w g st T w') ∨
  (st.told < st.all.length ∧ ∃ p n c T', e = .returned (.tuple #[.slice p n c, .bool true]) ∧ At w' g { st with told := st.told + 1 } T' ∧ Only T w w' ∧ (∀ b, T' b → T b ∨ w.heap.size ≤ b) ∧ BytG w' p n c (st.all.getD st.told []))
theorem bown_new {w' : World} {base : Nat} {v : Value} {bs : List Int} (h : BOwn w' base v bs) (hd : Digs 256 bs) : ∃ p n c, v = .slice p n c ∧ BytN base w' p n c bs := by
  obtain ⟨pa, pn, pc, rfl, hP, hPb, hPn⟩ := h.fresh hd
  refine ⟨pa, pn, pc, rfl, ⟨⟨hP, nil9 hPn, fun ad e h0 => ?_⟩, fun ad e h0 => ?_⟩⟩
  · obtain ⟨q, e2, hq, cur, hqc, -⟩ := hPb h0
    rw [e] at e2
    cases e2
    exact ⟨cur, hqc⟩
  · obtain ⟨q, e2, hq, -⟩ := hPb h0
    rw [e] at e2
    cases e2
    exact hq

end Go.Proofs.Ytnbdbahfekneoab

namespace Go.Proofs.Ytnbdbahfekneoab
open Go.RowKit

/-- The bytes are this frame's. -/
def IsFr (f : Fr11) (ys : List Int) : Prop := rightFr f.data f.seq f.ack f.body.length = true ∧ IsEnc f.data f.seq f.ack f.body ys
/-- What a call that tells a frame's bytes makes. -/
def FrT11 (f : Fr11) (w : World) (e : Ending) (w' : World) : Prop := ∃ p n c ys, e = .returned (.slice p n c) ∧ BytN w.heap.size w' p n c ys ∧ IsFr f ys ∧ Below w.heap.size w w'

end Go.Proofs.Ytnbdbahfekneoab

namespace Go.Proofs.Ytnbdbahfekneoab
open Go.RowKit

/-- A row of frames' bytes, the row from block B on. -/
def RowF (B : Nat) (w : World) (v : Value) (fs : List Fr11) : Prop := ∃ yss, RowB w v yss ∧ (∀ b, v.ownBlock = some b → B ≤ b) ∧ yss.length = fs.length ∧ ∀ i, i < fs.length → IsFr (fs.getD i ⟨false, 0, 0, []⟩) (yss.getD i [])
theorem RowF.nil (B : Nat) (w : World) : RowF B w (.slice none 0 0) [] := ⟨[], RowB.nil _, fun b e => by simp [Value.ownBlock] at e, rfl, fun i hi => absurd hi (by simp)⟩
theorem RowF.below {B : Nat} {w w' : World} {v : Value} {fs : List Fr11} (h : RowF B w v fs) (hb : Below w.heap.size w w') : RowF B w' v fs := by
  obtain ⟨yss, h1, h2⟩ := h
  exact ⟨yss, h1.only (Only.of_below (T := fun _ => False) hb) (fun _ _ e => e) (fun _ e => e.elim), h2⟩
theorem RowF.only {T : Nat → Prop} {B : Nat} {w w' : World} {v : Value} {fs : List Fr11} (h : RowF B w v fs) (k : Only T w w') (hT : ∀ b, T b → b < B) (hB : ∀ b, T b → ¬ IsB w b) : RowF B w' v fs := by
  obtain ⟨yss, h1, h2, h3⟩ := h
  exact ⟨yss, h1.only k (fun b e q => by have := h2 b e; have := hT b q; omega) hB, h2, h3⟩
theorem RowF.slice {B : Nat} {w : World} {v : Value} {fs : List Fr11} (h : RowF B w v fs) : ∃ a c, v = .slice a fs.length c ∧ fs.length ≤ c ∧ c ≤ maxLen := by
  obtain ⟨yss, h1, _, h3, _⟩ := h
  obtain ⟨a, c, e, _, h4, h5⟩ := h1.slice
  rw [h3] at e h4
  exact ⟨a, c, e, h4, h5⟩
/-- The row's own cells. -/
theorem RowF.own {B : Nat} {w : World} {v : Value} {fs : List Fr11} (h : RowF B w v fs) : ∃ vs, w.ownsRow 0 32 1 v fs.length vs ∧ ∀ (wa w3 : World) (v' : Value) (p : Option Addr) (n c : Nat) (ys : List Int) (f : Fr11), Below w.heap.size w wa → BytG wa p n c ys → IsFr f ys → w3.ownsRow 0 32 1 v' (fs.length + 1) (vs ++ [.slice p n c]) → wa.grownBy w3 v.ownBlock → (v'.ownBlock = v.ownBlock ∨ v'.ownBlock = some wa.heap.size) → B ≤ w.heap.size → RowF B w3 v' (fs ++ [f]) := by
  obtain ⟨yss, hR, h3, h4, h5⟩ := h
  have hnb := hR.notB
  have hlt := hR.lt
  obtain ⟨vs, h1, h2⟩ := hR
  rw [h4] at h1
  have hvs : vs.length = yss.length := by have := h1.1; omega
  refine ⟨vs, h1, fun wa w3 v' p n c ys f hwa hp hf hown hg hv hB => ?_⟩
  have hsz := hwa.size
  have o1 : Only (fun b => v.ownBlock = some b) wa w3 := Only.of_grown hg (fun b e => e)
  have nwa : ∀ b, v.ownBlock = some b → ¬ IsB wa b := fun b e => IsB.back (Only.of_below (T := fun _ => False) hwa) (hlt b e) (fun q => q) (hnb b e)
  refine ⟨yss ++ [ys], RowB.snoc (vs := vs) (p := p) (n := n) (c := c) (by rw [h4]; exact hown) hvs (fun i hi => ?_) ?_, fun b e => ?_, by simp [h4], fun i hi => ?_⟩
  · obtain ⟨p', n', c', e, hb⟩ := h2 i hi
    exact ⟨p', n', c', e, (hb.below hwa).only o1 nwa⟩
  · exact hp.only o1 nwa
  · rcases hv with k | k
    · exact h3 b (k.symm.trans e)
    · have := Option.some.inj (e.symm.trans k)
      omega
  · by_cases q : i < fs.length
    · rw [show (fs ++ [f]).getD i ⟨false, 0, 0, []⟩ = fs.getD i ⟨false, 0, 0, []⟩ by unfold List.getD; rw [List.getElem?_append_left q], show (yss ++ [ys]).getD i [] = yss.getD i [] by unfold List.getD; rw [List.getElem?_append_left (by omega)]]
      exact h5 i q
    · obtain rfl : i = fs.length := by simp at hi; omega
      rw [show (fs ++ [f]).getD fs.length ⟨false, 0, 0, []⟩ = f by simp [List.getD], show (yss ++ [ys]).getD fs.length [] = ys by rw [← h4]; simp [List.getD]]
      exact hf
theorem wpList_appRow (w : World) {ops : Array Oper} {rest : List Oper} {o : Oper} {a : Act} {Q : Exit → Act → World → Prop} (hgd : o.guard = none) (s x : Operand) (t : TypeId)
    (ho : o.op = .call { callee := .builtin .append, args := #[s, x], argTypes := #[t, t] }) (ht : Try.prog.underlying t = some (.slice 32))
    (v : Value) (vs : List Value) (n : Nat) (hs : a.eval s = v) (hown : w.ownsRow 0 32 1 v n vs) (g1 : Nat) (u : Value) (hx : a.eval x = .slice (some ⟨g1, 0, none⟩) 1 1) (hu : w.cell? ⟨g1, 0, none⟩ = some u) (hu1 : u.oneCell' = true) (hn : n ≤ 2147483648)
    (h : ∀ v' w', w'.ownsRow 0 32 1 v' (n + 1) (vs ++ [u]) → w.grownBy w' v.ownBlock → (v'.ownBlock = v.ownBlock ∨ v'.ownBlock = some w.heap.size) → wpList Try.prog ops Q rest (a.put o.dst v') w') : wpList Try.prog ops Q (o :: rest) a w :=
  wpList_plain hgd fun _ hK => wp_appRow w s x t ho ht v vs n hs hown g1 u hx hu hu1 hn fun v' w' h2 h3 h4 => hK _ _ (h v' w' h2 h3 h4)
/-- What a call that tells all frames that come out makes. -/
def OutT11 (At : World → Nat → LS → (Nat → Prop) → Prop) (w : World) (g : Nat) (st : LS) (T : Nat → Prop) (e : Ending) (w' : World) : Prop := ∃ v T', e = .returned v ∧ At w' g st.out T' ∧ Only T w w' ∧ (∀ b, T' b → T b ∨ w.heap.size ≤ b) ∧ RowF w.heap.size w' v st.outF ∧ ∀ b, v.ownBlock = some b → ¬ T' b
theorem range_snoc {a k : Nat} (h : a ≤ k) (x : LS) : (List.range' a (k + 1 - a)).map x.data = (List.range' a (k - a)).map x.data ++ [x.data k] := by
  rw [show k + 1 - a = (k - a) + 1 by omega, List.range'_concat]
  simp
  congr 1
  omega
end Go.Proofs.Ytnbdbahfekneoab
