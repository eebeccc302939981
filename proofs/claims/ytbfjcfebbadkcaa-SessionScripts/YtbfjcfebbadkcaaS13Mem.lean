/-
  What stage 13's laws ask of a session; where the document's session lies in memory.
-/
import Derived.Test.YtbfjcfebbadkcaaS13Math
import Derived.Test.YtbfjcfebbadkcaaW12A
namespace Go.Proofs.Ytbfjcfebbadkcaa
open Go.RowKit

/-- At tells where a session lies, what it knows, and which blocks are its own. -/
structure SesKept13 (At : World → Nat → SS → (Nat → Prop) → Prop) : Prop where
  foot : ∀ {w : World} {g : Nat} {st : SS} {T : Nat → Prop}, At w g st T → st.Fine ∧ ∀ b, T b → b < w.heap.size
  other : ∀ {w w' : World} {g : Nat} {st : SS} {T C : Nat → Prop}, At w g st T → Only C w w' → (∀ b, C b → ¬ T b) → At w' g st T
/-- What a call on a session makes. -/
def SesT13 (At : World → Nat → SS → (Nat → Prop) → Prop) (w : World) (g : Nat) (st : SS) (T : Nat → Prop) (w' : World) : Prop := ∃ T', At w' g st T' ∧ Only T w w' ∧ ∀ b, T' b → T b ∨ w.heap.size ≤ b
def NewT13 (At : World → Nat → SS → (Nat → Prop) → Prop) (a b c : Int) (w : World) (e : Ending) (w' : World) : Prop := (newOk a b c = false ∧ e = .returned (.tuple #[.pointer none, .int .i64 1]) ∧ Below w.heap.size w w') ∨ (newOk a b c = true ∧ ∃ g T, e = .returned (.tuple #[.pointer (some ⟨g, 0, none⟩), .int .i64 0]) ∧ At w' g (SS.new a.toNat b.toNat c.toNat) T ∧ Below w.heap.size w w' ∧ (∀ b, T b → w.heap.size ≤ b))
/-- Whom it waits for. -/
def WhoT13 (st : SS) (w : World) (e : Ending) (w' : World) : Prop := ∃ a c, e = .returned (.slice a st.who.length c) ∧ Lsts w' a st.who.length c (ints st.who) ∧ Below w.heap.size w w'
/-- The numbers of a session's functions. -/
structure SesFns where
  new : Nat
  await : Nat
  take : Nat
  tick : Nat
  finish : Nat
  abort : Nat
  state : Nat
  who : Nat
structure SesOk13 (f : SesFns) (At : World → Nat → SS → (Nat → Prop) → Prop) : Prop extends SesKept13 At where
  new : ∀ (a b c : Int) (w : World), (-9223372036854775808 ≤ a ∧ a < 9223372036854775808) → (-9223372036854775808 ≤ b ∧ b < 9223372036854775808) → (-9223372036854775808 ≤ c ∧ c < 9223372036854775808) → Calls Try.prog f.new #[.int .i64 a, .int .i64 b, .int .i64 c] w fun e w' => NewT13 At a b c w e w'
  await : ∀ (g : Nat) (st : SS) (T : Nat → Prop) (p : Int) (a : Option Addr) (l c : Nat) (ks : List Int) (w : World), At w g st T → (-9223372036854775808 ≤ p ∧ p < 9223372036854775808) → Lsts w a l c ks → (a = none → c = 0) → l ≤ 17592186044416 → Calls Try.prog f.await #[.pointer (some ⟨g, 0, none⟩), .int .i64 p, .slice a l c] w fun e w' => e = .returned (.int .i64 (st.awaitE p ks)) ∧ SesT13 At w g (st.await p ks) T w'
  take : ∀ (g : Nat) (st : SS) (T : Nat → Prop) (p k a b c : Int) (pi pr pn : Option Addr) (li ci lr cr ln cn : Nat) (w : World), At w g st T → (-9223372036854775808 ≤ p ∧ p < 9223372036854775808) → (-9223372036854775808 ≤ k ∧ k < 9223372036854775808) → (-9223372036854775808 ≤ a ∧ a < 9223372036854775808) → Calls Try.prog f.take #[.pointer (some ⟨g, 0, none⟩), .int .i64 p, .agg #[.int .i64 k, .int .i64 a, .int .i64 b, .int .i64 c, .slice pi li ci, .slice pr lr cr, .slice pn ln cn]] w fun e w' => e = .returned (.int .i64 (st.takeE p k)) ∧ SesT13 At w g (st.take p k a) T w'
  tick : ∀ (g : Nat) (st : SS) (T : Nat → Prop) (n : Int) (w : World), At w g st T → (-9223372036854775808 ≤ n ∧ n < 9223372036854775808) → Calls Try.prog f.tick #[.pointer (some ⟨g, 0, none⟩), .int .i64 n] w fun e w' => e = .returned (.int .i64 (st.tickE n)) ∧ SesT13 At w g (st.tick n) T w'
  finish : ∀ (g : Nat) (st : SS) (T : Nat → Prop) (w : World), At w g st T → Calls Try.prog f.finish #[.pointer (some ⟨g, 0, none⟩)] w fun e w' => e = .returned (.int .i64 st.finishE) ∧ SesT13 At w g st.finish T w'
  abort : ∀ (g : Nat) (st : SS) (T : Nat → Prop) (y : Int) (w : World), At w g st T → (-9223372036854775808 ≤ y ∧ y < 9223372036854775808) → Calls Try.prog f.abort #[.pointer (some ⟨g, 0, none⟩), .int .i64 y] w fun e w' => e = .returned (.int .i64 (st.abortE y)) ∧ SesT13 At w g (st.abort y) T w'
  state : ∀ (g : Nat) (st : SS) (T : Nat → Prop) (w : World), At w g st T → Calls Try.prog f.state #[.pointer (some ⟨g, 0, none⟩)] w fun e w' => e = .returned (.tuple #[.int .i64 (st.phase : Int), .int .i64 (st.why : Int)]) ∧ Below w.heap.size w w'
  who : ∀ (g : Nat) (st : SS) (T : Nat → Prop) (w : World), At w g st T → Calls Try.prog f.who #[.pointer (some ⟨g, 0, none⟩)] w fun e w' => WhoT13 st w e w'
theorem SesKept13.below {At : World → Nat → SS → (Nat → Prop) → Prop} (A : SesKept13 At) {w w' : World} {g : Nat} {st : SS} {T : Nat → Prop} (h : At w g st T) (hb : Below w.heap.size w w') : At w' g st T := A.other h (Only.of_below (T := fun _ => False) hb) (fun _ e => e.elim)
theorem SesT13.same {At : World → Nat → SS → (Nat → Prop) → Prop} (A : SesKept13 At) {w w' : World} {g : Nat} {st : SS} {T : Nat → Prop} (h : At w g st T) (hb : Below w.heap.size w w') : SesT13 At w g st T w' := ⟨T, A.below h hb, Only.of_below hb, fun _ e => .inl e⟩

/-- Where the document's session keeps what it knows of one peer. -/
def WOk13 (w : World) (g : Nat) (T : Nat → Prop) (b : Bool) (t : Int) (a : Option Addr) (l c : Nat) : Option (Nat × List Int) → Prop
  | none => b = false ∧ a = none ∧ l = 0 ∧ c = 0
  | some x => b = true ∧ t = (x.1 : Int) ∧ Lsts w a l c x.2 ∧ ∀ ad, a = some ad → T ad.block ∧ ad.block ≠ g
def WAt13 (w : World) (g : Nat) (cur : Array Value) (st : SS) (T : Nat → Prop) (p : Nat) : Prop := ∃ b t a l c, cur[6 + p * 3]? = some (.bool b) ∧ cur[6 + p * 3 + 1]? = some (.int .i64 t) ∧ cur[6 + p * 3 + 2]? = some (.slice a l c) ∧ (st.phase = 0 → WOk13 w g T b t a l c (st.waits p))
structure RCur13 (w : World) (g : Nat) (cur : Array Value) (st : SS) (T : Nat → Prop) : Prop where
  heap : w.heap[g]? = some (.cells cur 47 (0, 0))
  c0 : cur[0]? = some (.int .i64 (st.self : Int))
  c1 : cur[1]? = some (.int .i64 (st.parties : Int))
  c2 : cur[2]? = some (.int .i64 (st.patience : Int))
  c3 : cur[3]? = some (.int .i64 (st.now : Int))
  c4 : cur[4]? = some (.int .i64 (st.phase : Int))
  c5 : cur[5]? = some (.int .i64 (st.why : Int))
  ws : ∀ p, p < 16 → WAt13 w g cur st T p
  gT : T g
  old : ∀ b, T b → b < w.heap.size
/-- The document's session. -/
def RSes (w : World) (g : Nat) (st : SS) (T : Nat → Prop) : Prop := st.Fine ∧ ∃ cur, RCur13 w g cur st T
theorem lsts_only {C : Nat → Prop} {w w' : World} {a : Option Addr} {l c : Nat} {xs : List Int} (h : Lsts w a l c xs) (k : Only C w w') (hC : ∀ ad, a = some ad → ¬ C ad.block) : Lsts w' a l c xs := ⟨h.hlen, h.hcap, h.hmax, fun hp => by
  obtain ⟨b, off, e, hc⟩ := h.cells hp
  exact ⟨b, off, e, fun i hi => k.cell (hc i hi) (show ¬ C b from hC ⟨b, off, none⟩ e)⟩, h.word⟩
theorem WOk13.only {C T : Nat → Prop} {w w' : World} {g : Nat} {b : Bool} {t : Int} {a : Option Addr} {l c : Nat} {x : Option (Nat × List Int)} (h : WOk13 w g T b t a l c x) (k : Only C w w') (hC : ∀ q, C q → q = g ∨ ¬ T q) : WOk13 w' g T b t a l c x := by
  cases x with
  | none => exact h
  | some x =>
    obtain ⟨h1, h2, h3, h4⟩ := h
    refine ⟨h1, h2, lsts_only h3 k (fun ad e q => ?_), h4⟩
    rcases hC _ q with r | r
    · exact (h4 ad e).2 r
    · exact r (h4 ad e).1
theorem rses_kept : SesKept13 RSes where
  foot := fun ⟨hF, _, h⟩ => ⟨hF, h.old⟩
  other := fun {w w' g st T C} ⟨hF, cur, h⟩ k hC => ⟨hF, cur, ⟨(k.block g (h.old g h.gT) (fun e => hC g e h.gT)).trans h.heap, h.c0, h.c1, h.c2, h.c3, h.c4, h.c5, fun p hp => by
    obtain ⟨b, t, a, l, c, e1, e2, e3, e4⟩ := h.ws p hp
    exact ⟨b, t, a, l, c, e1, e2, e3, fun hph => (e4 hph).only k (fun q e => .inr (hC q e))⟩, h.gT, fun b e => Nat.lt_of_lt_of_le (h.old b e) k.size⟩⟩
theorem RCur13.cell {w : World} {g : Nat} {cur : Array Value} {st : SS} {T : Nat → Prop} (h : RCur13 w g cur st T) (j : Nat) : w.cell? ⟨g, j, none⟩ = cur[j]? := cell_of_row w g j _ _ _ h.heap
theorem RCur13.thaw {w : World} {g : Nat} {cur : Array Value} {st : SS} {T : Nat → Prop} (h : RCur13 w g cur st T) (j : Nat) : w.frozen? ⟨g, j, none⟩ = false := frozen_of_row _ _ _ _ _ h.heap
end Go.Proofs.Ytbfjcfebbadkcaa
