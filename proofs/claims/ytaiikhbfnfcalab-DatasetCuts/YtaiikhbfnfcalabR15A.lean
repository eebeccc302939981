/-
  Tables in memory: rows of rows of whole numbers; a table's value.
  Contracts of the document's place and RightIds (dataset).
  The document's Right of tables, its statements. Written by mk/r15right.py.
  The document's Right of tables. Written by mk/r15right.py.
  The document's Same of tables. Written by mk/r15same.py.
  Rows of rows of whole numbers whose block holds slices alone; rows of whole numbers, appended whole.
-/
import Derived.Test.YtaiikhbfnfcalabB14A
import Derived.Test.YtaiikhbfnfcalabW12B
import Derived.Test.YtaiikhbfnfcalabPieces
import Derived.BigQuiet
import Derived.ArgAppend
import Derived.Lib.AppendZeros
namespace Go.Proofs.Ytaiikhbfnfcalab
open Go.RowKit

/-- The slice (a, l, c) of rows of whole numbers lies in memory. -/
structure IRows (w : World) (a : Option Addr) (l c : Nat) (Ls : List (List Int)) : Prop where
  hlen : Ls.length = l
  hcap : l ≤ c
  hmax : c ≤ maxLen
  cells : 0 < l → ∃ b off, a = some ⟨b, off, none⟩ ∧ ∀ i, i < l → ∃ p n k, w.cell? ⟨b, off + i, none⟩ = some (.slice p n k) ∧ Lsts w p n k (Ls.getD i [])
theorem IRows.below {w w' : World} {a : Option Addr} {l c : Nat} {Ls : List (List Int)} (h : IRows w a l c Ls) (hb : Below w.heap.size w w') : IRows w' a l c Ls :=
  ⟨h.hlen, h.hcap, h.hmax, fun hp => by
    obtain ⟨b, off, e, hc⟩ := h.cells hp
    refine ⟨b, off, e, fun i hi => ?_⟩
    obtain ⟨p, n, k, h1, h2⟩ := hc i hi
    exact ⟨p, n, k, (hb.cell (World.block_lt_of_cell? w _ h1)).trans h1, h2.below hb⟩⟩
theorem IRows.nil (w : World) : IRows w none 0 0 [] := ⟨rfl, Nat.le_refl _, Nat.zero_le _, fun h => absurd h (Nat.lt_irrefl _)⟩
/-- Where a table's three lists lie. -/
structure TV where
  p0 : Option Addr
  l0 : Nat
  c0 : Nat
  p1 : Option Addr
  l1 : Nat
  c1 : Nat
  p2 : Option Addr
  l2 : Nat
  c2 : Nat
def TV.cells (v : TV) : Array Value := #[.slice v.p0 v.l0 v.c0, .slice v.p1 v.l1 v.c1, .slice v.p2 v.l2 v.c2]
def TV.none : TV := ⟨Option.none, 0, 0, Option.none, 0, 0, Option.none, 0, 0⟩
structure TabAt (w : World) (v : TV) (t : Tab) : Prop where
  ids : Lsts w v.p0 v.l0 v.c0 t.ids
  bins : Lsts w v.p1 v.l1 v.c1 t.bins
  cols : IRows w v.p2 v.l2 v.c2 t.cols
theorem TabAt.below {w w' : World} {v : TV} {t : Tab} (h : TabAt w v t) (hb : Below w.heap.size w w') : TabAt w' v t := ⟨h.ids.below hb, h.bins.below hb, h.cols.below hb⟩
theorem TabAt.none (w : World) : TabAt w TV.none Tab.none := ⟨Lsts.nil _, Lsts.nil _, IRows.nil _⟩
/-- A block of memory that holds a table. -/
def TVar (w : World) (g : Nat) (v : TV) : Prop := w.heap[g]? = some (.cells v.cells 25 (0, 0))
theorem TVar.cells {w : World} {g : Nat} {v : TV} (h : TVar w g v) : w.cell? ⟨g, 0, none⟩ = some (.slice v.p0 v.l0 v.c0) ∧ w.cell? ⟨g, 1, none⟩ = some (.slice v.p1 v.l1 v.c1) ∧ w.cell? ⟨g, 2, none⟩ = some (.slice v.p2 v.l2 v.c2) ∧ ∀ j, w.frozen? ⟨g, j, none⟩ = false :=
  ⟨by rw [cell_of_row w g _ _ _ _ h]; rfl, by rw [cell_of_row w g _ _ _ _ h]; rfl, by rw [cell_of_row w g _ _ _ _ h]; rfl, fun j => frozen_of_row w g j _ _ h⟩
theorem TVar.lt {w : World} {g : Nat} {v : TV} (h : TVar w g v) : g < w.heap.size := (Array.getElem?_eq_some_iff.1 h).1
theorem TVar.below {w w' : World} {g : Nat} {v : TV} (h : TVar w g v) (hb : Below w.heap.size w w') : TVar w' g v := (hb.block g h.lt).trans h
theorem TVar.new (w : World) (v : TV) : TVar (w.alloc (.cells v.cells 25)) w.heap.size v := heap_alloc_new _ _
/-- The slice (a, l, c) of tables lies in memory. -/
structure TRows (w : World) (a : Option Addr) (l c : Nat) (ts : List Tab) : Prop where
  hlen : ts.length = l
  hcap : l ≤ c
  hmax : c ≤ maxLen
  cells : 0 < l → ∃ b off, a = some ⟨b, off, none⟩ ∧ ∀ i, i < l → ∃ v : TV, (w.cell? ⟨b, off + i * 3, none⟩ = some (.slice v.p0 v.l0 v.c0) ∧ w.cell? ⟨b, off + i * 3 + 1, none⟩ = some (.slice v.p1 v.l1 v.c1) ∧ w.cell? ⟨b, off + i * 3 + 2, none⟩ = some (.slice v.p2 v.l2 v.c2)) ∧ TabAt w v (ts.getD i Tab.none)
theorem TRows.below {w w' : World} {a : Option Addr} {l c : Nat} {ts : List Tab} (h : TRows w a l c ts) (hb : Below w.heap.size w w') : TRows w' a l c ts :=
  ⟨h.hlen, h.hcap, h.hmax, fun hp => by
    obtain ⟨b, off, e, hc⟩ := h.cells hp
    refine ⟨b, off, e, fun i hi => ?_⟩
    obtain ⟨v, ⟨h1, h2, h3⟩, h4⟩ := hc i hi
    exact ⟨v, ⟨(hb.cell (World.block_lt_of_cell? w _ h1)).trans h1, (hb.cell (World.block_lt_of_cell? w _ h2)).trans h2, (hb.cell (World.block_lt_of_cell? w _ h3)).trans h3⟩, h4.below hb⟩⟩
end Go.Proofs.Ytaiikhbfnfcalab

namespace Go.Proofs.Ytaiikhbfnfcalab
open Go.RowKit

def IdsT (xs : List Int) (w : World) (e : Ending) (w' : World) : Prop := ∃ b, e = .returned (.bool b) ∧ (b = true ↔ IdsOk xs) ∧ w' = w
theorem idsOk_no {xs : List Int} {k : Nat} (hk : k < xs.length) (h : xs.getD k 0 < 0 ∨ 1073741824 < xs.getD k 0 ∨ placeI xs (xs.getD k 0) ≠ (k : Int)) : ¬ IdsOk xs := fun q => by
  have h1 := q.rng _ (mem_getD hk)
  have h2 := nodup_idx.1 q.nod k hk
  omega
end Go.Proofs.Ytaiikhbfnfcalab

namespace Go.Proofs.Ytaiikhbfnfcalab
open Go.RowKit

end Go.Proofs.Ytaiikhbfnfcalab

namespace Go.Proofs.Ytaiikhbfnfcalab
open Go.RowKit


theorem IRows.at {w : World} {a : Option Addr} {l c : Nat} {Ls : List (List Int)} (h : IRows w a l c Ls) {i : Nat} (hi : i < l) : ∃ b off p n k, a = some ⟨b, off, none⟩ ∧ w.cell? ⟨b, off + i, none⟩ = some (.slice p n k) ∧ Lsts w p n k (Ls.getD i []) := by
  obtain ⟨b, off, e, hc⟩ := h.cells (by omega)
  obtain ⟨p, n, k, h1, h2⟩ := hc i hi
  exact ⟨b, off, p, n, k, e, h1, h2⟩
theorem Lsts.at {w : World} {a : Option Addr} {l c : Nat} {xs : List Int} (h : Lsts w a l c xs) {i : Nat} (hi : i < l) : ∃ b off, a = some ⟨b, off, none⟩ ∧ w.cell? ⟨b, off + i, none⟩ = some (.int .i64 (xs.getD i 0)) := by
  obtain ⟨b, off, e, hc⟩ := h.cells (by omega)
  exact ⟨b, off, e, hc i hi⟩
/-- Right, under way. -/
structure RtAt (w : World) (g : Nat) (v : TV) (t : Tab) (W : World) : Prop where
  var : TVar W g v
  tab : TabAt W v t
  below : Below w.heap.size w W
theorem RtAt.grow {w : World} {g : Nat} {v : TV} {t : Tab} {W W' : World} (h : RtAt w g v t W) (hb : Below W.heap.size W W') : RtAt w g v t W' := ⟨h.var.below hb, h.tab.below hb, bthen h.below hb⟩
def RgtT15 (t : Tab) (w : World) (e : Ending) (w' : World) : Prop := ∃ b, e = .returned (.bool b) ∧ (b = true ↔ TabOk t) ∧ Below w.heap.size w w'
end Go.Proofs.Ytaiikhbfnfcalab

namespace Go.Proofs.Ytaiikhbfnfcalab
open Go.RowKit

/-- Same, under way. -/
structure SmAt (w : World) (g h : Nat) (v u : TV) (t s : Tab) (W : World) : Prop where
  v1 : TVar W g v
  v2 : TVar W h u
  t1 : TabAt W v t
  t2 : TabAt W u s
  below : Below w.heap.size w W
theorem SmAt.grow {w : World} {g h : Nat} {v u : TV} {t s : Tab} {W W' : World} (k : SmAt w g h v u t s W) (hb : Below W.heap.size W W') : SmAt w g h v u t s W' := ⟨k.v1.below hb, k.v2.below hb, k.t1.below hb, k.t2.below hb, bthen k.below hb⟩

theorem Tab.ext_of {t s : Tab} (h1 : t.ids = s.ids) (h2 : t.bins = s.bins) (h3 : t.cols.length = s.cols.length) (h4 : ∀ i, i < t.cols.length → t.cols.getD i [] = s.cols.getD i []) : t = s := by
  obtain ⟨a, b, c⟩ := t
  obtain ⟨a', b', c'⟩ := s
  dsimp only at h1 h2 h3 h4
  have : c = c' := by
    apply List.ext_getElem h3
    intro i k1 k2
    have := h4 i k1
    simpa [List.getD, List.getElem?_eq_getElem k1, List.getElem?_eq_getElem k2] using this
  rw [h1, h2, this]
def SameT15 (t s : Tab) (w : World) (e : Ending) (w' : World) : Prop := ∃ b, e = .returned (.bool b) ∧ (b = true ↔ t = s) ∧ Below w.heap.size w w'
end Go.Proofs.Ytaiikhbfnfcalab

namespace Go.Proofs.Ytaiikhbfnfcalab
open Go.RowKit

theorem lsts_only15 {C : Nat → Prop} {w w' : World} {a : Option Addr} {l c : Nat} {xs : List Int} (h : Lsts w a l c xs) (k : Only C w w') (hC : ∀ ad, a = some ad → ¬ C ad.block) : Lsts w' a l c xs := ⟨h.hlen, h.hcap, h.hmax, fun hp => by
  obtain ⟨b, off, e, hc⟩ := h.cells hp
  exact ⟨b, off, e, fun i hi => k.cell (hc i hi) (show ¬ C b from hC ⟨b, off, none⟩ e)⟩, h.word⟩
/-- Block b holds no whole number. -/
def HeadI (w : World) (b : Nat) : Prop := ∃ cur t, w.heap[b]? = some (.cells cur t (0, 0)) ∧ ∀ (j : Nat) (x : Int), cur[j]? ≠ some (.int .i64 x)
theorem Lsts.headI {w w' : World} {a : Option Addr} {l c g : Nat} {xs : List Int} (h : Lsts w a l c xs) (hg : w.grownBy w' (some g)) (hd : HeadI w g) : Lsts w' a l c xs := ⟨h.hlen, h.hcap, h.hmax, fun hp => by
  obtain ⟨b, off, e, hc⟩ := h.cells hp
  refine ⟨b, off, e, fun i hi => ?_⟩
  have k := hc i hi
  have hne : b ≠ g := fun q => by
    subst q
    obtain ⟨cur, t, h1, h2⟩ := hd
    rw [cell_of_row _ _ _ _ _ _ h1] at k
    exact h2 _ _ k
  rw [← k]
  exact World.cell?_of_block (hg.block b (World.block_lt_of_cell? w _ k) (fun q => hne (Option.some.inj q))), h.word⟩
theorem TVar.headI {w : World} {g : Nat} {v : TV} (h : TVar w g v) : HeadI w g := ⟨_, _, h, fun j x => by
  unfold TV.cells
  rcases j with _ | _ | _ | j
  · simp
  · simp
  · simp
  · rw [Array.getElem?_eq_none (by simp)]
    simp⟩
/-- A row's entry: a list whose block Q tells. -/
def LE (Q : Nat → Prop) (w : World) (p : Option Addr) (n c : Nat) (zs : List Int) : Prop := Lsts w p n c zs ∧ ∀ ad, p = some ad → Q ad.block
theorem LE.below {Q : Nat → Prop} {w w' : World} {p : Option Addr} {n c : Nat} {zs : List Int} (h : LE Q w p n c zs) (hb : Below w.heap.size w w') : LE Q w' p n c zs := ⟨h.1.below hb, h.2⟩
theorem LE.headI {Q : Nat → Prop} {w w' : World} {p : Option Addr} {n c g : Nat} {zs : List Int} (h : LE Q w p n c zs) (hg : w.grownBy w' (some g)) (hd : HeadI w g) : LE Q w' p n c zs := ⟨h.1.headI hg hd, h.2⟩
/-- A row of rows of whole numbers in a block of slices alone, from block 'base' on. -/
def LHd (Q : Nat → Prop) (w : World) (base : Nat) (v : Value) (ns : List (List Int)) : Prop :=
  (v = .slice none 0 0 ∧ ns = []) ∨ ∃ b cap cur, v = .slice (some ⟨b, 0, none⟩) ns.length cap ∧ base ≤ b ∧ w.heap[b]? = some (.cells cur 22 (0, 0)) ∧ ns.length ≤ cap ∧ cap ≤ maxLen ∧ cur.size = cap ∧ (∀ j, j < cap → ∃ p n c, cur[j]? = some (.slice p n c)) ∧ ∀ i, i < ns.length → ∃ p n c, cur[i]? = some (.slice p n c) ∧ LE Q w p n c (ns.getD i [])
theorem LHd.nil {Q : Nat → Prop} (w : World) (base : Nat) : LHd Q w base (.slice none 0 0) [] := .inl ⟨rfl, rfl⟩
theorem headI_slices {w : World} {b cap : Nat} {cur : Array Value} {t : TypeId} (hg : w.heap[b]? = some (.cells cur t (0, 0))) (hs : cur.size = cap) (hc : ∀ j, j < cap → ∃ p n c, cur[j]? = some (.slice p n c)) : HeadI w b := by
  refine ⟨cur, t, hg, fun j x => ?_⟩
  by_cases hj : j < cap
  · obtain ⟨p, n, c, e⟩ := hc j hj
    rw [e]
    simp
  · rw [Array.getElem?_eq_none (by omega)]
    simp
theorem LHd.own {Q : Nat → Prop} {w : World} {base : Nat} {v : Value} {ns : List (List Int)} (h : LHd Q w base v ns) : ∀ b, v.ownBlock = some b → HeadI w b ∧ base ≤ b ∧ b < w.heap.size := fun q e => by
  rcases h with ⟨rfl, rfl⟩ | ⟨b, cap, cur, rfl, hb, hg, _, _, hs, hc, _⟩
  · simp [Value.ownBlock] at e
  · simp [Value.ownBlock] at e
    subst e
    exact ⟨headI_slices hg hs hc, hb, (Array.getElem?_eq_some_iff.1 hg).1⟩
theorem LHd.headI {Q : Nat → Prop} {w w' : World} {base g : Nat} {v : Value} {ns : List (List Int)} (h : LHd Q w base v ns) (hg : w.grownBy w' (some g)) (hd : HeadI w g) (hne : ∀ b, v.ownBlock = some b → b ≠ g) : LHd Q w' base v ns := by
  rcases h with h | ⟨b, cap, cur, rfl, hb, hb2, h1, h2, hs, hc, hi⟩
  · exact .inl h
  · refine .inr ⟨b, cap, cur, rfl, hb, (hg.block b (Array.getElem?_eq_some_iff.1 hb2).1 (fun e => hne b rfl (by simpa using e))).trans hb2, h1, h2, hs, hc, fun i hi' => ?_⟩
    obtain ⟨p, n, c, e, hn⟩ := hi i hi'
    exact ⟨p, n, c, e, hn.headI hg hd⟩
theorem LHd.below {Q : Nat → Prop} {w w' : World} {base : Nat} {v : Value} {ns : List (List Int)} (h : LHd Q w base v ns) (hb : Below w.heap.size w w') : LHd Q w' base v ns := by
  rcases h with h | ⟨b, cap, cur, rfl, h0, hb2, h1, h2, hs, hc, hi⟩
  · exact .inl h
  · refine .inr ⟨b, cap, cur, rfl, h0, (hb.block b (Array.getElem?_eq_some_iff.1 hb2).1).trans hb2, h1, h2, hs, hc, fun i hi' => ?_⟩
    obtain ⟨p, n, c, e, hn⟩ := hi i hi'
    exact ⟨p, n, c, e, hn.below hb⟩
theorem LHd.row {Q : Nat → Prop} {w : World} {base : Nat} {v : Value} {ns : List (List Int)} (h : LHd Q w base v ns) : ∃ a c, v = .slice a ns.length c ∧ IRows w a ns.length c ns ∧ (a = none → c = 0) := by
  rcases h with ⟨rfl, rfl⟩ | ⟨b, cap, cur, rfl, h0, hb2, h1, h2, hs, hc, hi⟩
  · exact ⟨none, 0, rfl, IRows.nil _, fun _ => rfl⟩
  · refine ⟨_, cap, rfl, ⟨rfl, h1, h2, fun _ => ⟨b, 0, rfl, fun i hi' => ?_⟩⟩, fun e => by cases e⟩
    obtain ⟨p, n, c, e, hn⟩ := hi i hi'
    exact ⟨p, n, c, by rw [Nat.zero_add, cell_of_row w b i cur _ _ hb2]; exact e, hn.1⟩
theorem lh_snoc {Ls : List (List Int)} {bs : List Int} {i : Nat} (h : i < Ls.length) : (Ls ++ [bs]).getD i [] = Ls.getD i [] := by unfold List.getD; rw [List.getElem?_append_left h]
theorem lh_last {Ls : List (List Int)} {bs : List Int} : (Ls ++ [bs]).getD Ls.length [] = bs := by simp [List.getD]
theorem lh_zero (k j : Nat) (hj : j < k) : ∃ p n c, (Builtin.zeroCells (Value.slice none 0 0).cells k)[j]? = some (.slice p n c) := by
  have hz : (Builtin.zeroCells (Value.slice none 0 0).cells k).size = k := by
    rw [size_zeroCells]
    simp [Value.cells]
  have : (Builtin.zeroCells (Value.slice none 0 0).cells k)[j]? = some (.slice none 0 0) := by
    rw [Array.getElem?_eq_getElem (by omega)]
    simp [Builtin.zeroCells, Value.cells]
    rw [Nat.mod_one]
    rfl
  exact ⟨_, _, _, this⟩
theorem Try.infoLH : (Try.prog.info? 22).map (fun i => (i.zero, i.size, i.bytes)) = some (some (.slice none 0 0), 1, 24) := by kernel_rfl
/-- One number more is appended. -/
theorem run_appLH {Q : Nat → Prop} (w : World) (t ty : TypeId) (ht : Try.prog.underlying t = some (.slice 22)) {base : Nat} {v : Value} {Ls : List (List Int)} (h : LHd Q w base v Ls) (hbase : base ≤ w.heap.size) {g1 : Nat} {p : Option Addr} {n c : Nat} {zs : List Int} (hu : w.cell? ⟨g1, 0, none⟩ = some (.slice p n c)) (hz : LE Q w p n c zs) (hl : Ls.length ≤ 2932031007402) :
    ∃ v' w', (Builtin.append_ #[t, t] ty #[v, .slice (some ⟨g1, 0, none⟩) 1 1]).run Try.prog w = .ok v' w' ∧ LHd Q w' base v' (Ls ++ [zs]) ∧ w.grownBy w' v.ownBlock ∧ (v'.ownBlock = v.ownBlock ∨ v'.ownBlock = some w.heap.size) := by
  obtain ⟨i0, hi, hz0, hz1, hz2⟩ := info_parts Try.infoLH
  have hnews : ∀ j q, [Value.slice p n c][j]? = some q → w.cell? ((⟨g1, 0, none⟩ : Addr).add j) = some q := fun j q hj => by
    match j, hj with
    | 0, hj =>
      simp at hj
      subst hj
      rw [Addr.add_lit]
      exact hu
  have hone : ∀ q ∈ [Value.slice p n c], q.oneCell' = true := fun q hq => by
    simp at hq
    subst hq
    rfl
  -- the block that is new
  have fresh : ∀ (olds : List Value) (G : Nat), olds.length = Ls.length → Ls.length + 1 ≤ G → G ≤ maxLen → (∀ i, i < Ls.length → ∃ p n c, olds[i]? = some (.slice p n c) ∧ LE Q w p n c (Ls.getD i [])) → ∀ row : Option Nat,
      LHd Q (w.drew.alloc (.cells (olds.toArray ++ [Value.slice p n c].toArray ++ Builtin.zeroCells (Value.slice none 0 0).cells (G - (Ls.length + 1))) 22)) base (.slice (some ⟨w.heap.size, 0, none⟩) (Ls.length + 1) G) (Ls ++ [zs]) ∧ w.grownBy (w.drew.alloc (.cells (olds.toArray ++ [Value.slice p n c].toArray ++ Builtin.zeroCells (Value.slice none 0 0).cells (G - (Ls.length + 1))) 22)) row := by
    intro olds G ho hG hGm hold row
    have hB : Below w.heap.size w (w.drew.alloc (.cells (olds.toArray ++ [Value.slice p n c].toArray ++ Builtin.zeroCells (Value.slice none 0 0).cells (G - (Ls.length + 1))) 22)) := (below_drewN (Below.refl w.heap.size w) 1).alloc (Nat.le_refl _) _
    have hat : ∀ i, i < Ls.length → (olds.toArray ++ [Value.slice p n c].toArray ++ Builtin.zeroCells (Value.slice none 0 0).cells (G - (Ls.length + 1)))[i]? = olds[i]? := fun i q => by
      rw [Array.getElem?_append_left (by simp; omega), Array.getElem?_append_left (by simp; omega)]
      simp
    have hla : (olds.toArray ++ [Value.slice p n c].toArray ++ Builtin.zeroCells (Value.slice none 0 0).cells (G - (Ls.length + 1)))[Ls.length]? = some (.slice p n c) := by
      rw [Array.getElem?_append_left (by simp; omega), Array.getElem?_append_right (by simp; omega)]
      simp [ho]
    have hsz : (olds.toArray ++ [Value.slice p n c].toArray ++ Builtin.zeroCells (Value.slice none 0 0).cells (G - (Ls.length + 1))).size = G := by
      rw [Array.size_append, Array.size_append, size_zeroCells]
      simp [Value.cells]
      omega
    refine ⟨.inr ⟨w.heap.size, G, _, by simp, hbase, heap_alloc_new w.drew _, by simp; omega, hGm, hsz, fun j hj => ?_, fun i hi' => ?_⟩, grown_of_below hB row⟩
    · by_cases q : j < Ls.length
      · obtain ⟨p', n', c', e, _⟩ := hold j q
        exact ⟨p', n', c', by rw [hat j q]; exact e⟩
      · by_cases q2 : j = Ls.length
        · subst q2
          exact ⟨p, n, c, hla⟩
        · rw [Array.getElem?_append_right (by simp; omega)]
          exact lh_zero _ _ (by simp; omega)
    · by_cases q : i < Ls.length
      · obtain ⟨p', n', c', e, hb'⟩ := hold i q
        exact ⟨p', n', c', by rw [hat i q]; exact e, by rw [lh_snoc q]; exact hb'.below hB⟩
      · obtain rfl : i = Ls.length := by simp at hi'; omega
        exact ⟨p, n, c, hla, by rw [lh_last]; exact hz.below hB⟩
  rcases h with ⟨rfl, rfl⟩ | ⟨b, cap, cur, rfl, h0, hg, hlc, hcm, hsz, hall, hc⟩
  · have hr := _root_.Go.run_append_nil (P := Try.prog) w t ty 22 i0 (.slice none 0 0) ht hi hz0 ⟨g1, 0, none⟩ 1 1 [.slice p n c] (by rw [hz1]; rfl) hnews (by decide) (by decide) (by rw [hz2]; decide)
    have hf := fresh [] (grownCap w 1 0 22) rfl (grownCap_ge w 1 0 _) (grownCap_le_maxLen w 1 0 _ (by unfold maxLen; omega)) (fun i hi => by simp at hi) none
    simp only [List.length_nil, Nat.zero_add, List.nil_append] at hf ⊢
    refine ⟨_, _, hr, ?_, ?_, .inr rfl⟩
    · simpa using hf.1
    · simpa [Value.ownBlock] using hf.2
  · by_cases hroom : Ls.length + 1 ≤ cap
    · have hr := _root_.Go.run_append_room_cells (P := Try.prog) w t ty 22 i0 ht hi b 0 Ls.length cap ⟨g1, 0, none⟩ 1 1 [.slice p n c] (by rw [hz1]; rfl) hnews hone hroom (fun j hj => by
        rw [cell_of_row w b _ cur _ _ hg, hz1]
        simp at hj
        subst hj
        rw [Array.getElem?_eq_getElem (by omega)]
        rfl) (fun j hj => frozen_of_row w b _ cur _ hg)
      rw [hz1, Nat.mul_one, Nat.zero_add] at hr
      have hgr := grown_set w b Ls.length (.slice p n c)
      have hhd := headI_slices hg hsz hall
      refine ⟨_, _, hr, .inr ⟨b, cap, _, by simp, h0, heap_setCell_same w b Ls.length cur _ (.slice p n c) hg, by simpa using hroom, hcm, by simpa using hsz, fun j hj => ?_, fun i hi' => ?_⟩, hgr, .inl rfl⟩
      · by_cases q : Ls.length = j
        · subst q
          exact ⟨p, n, c, by rw [Array.getElem?_setIfInBounds, if_pos rfl, if_pos (by omega)]⟩
        · rw [Array.getElem?_setIfInBounds, if_neg q]
          exact hall j hj
      · by_cases q : i < Ls.length
        · obtain ⟨p', n', c', e, hb'⟩ := hc i q
          refine ⟨p', n', c', ?_, by rw [lh_snoc q]; exact hb'.headI hgr hhd⟩
          rw [Array.getElem?_setIfInBounds, if_neg (by omega)]
          exact e
        · obtain rfl : i = Ls.length := by simp at hi'; omega
          refine ⟨p, n, c, ?_, by rw [lh_last]; exact hz.headI hgr hhd⟩
          rw [Array.getElem?_setIfInBounds, if_pos rfl, if_pos (by omega)]
    · obtain ⟨olds, hol⟩ : ∃ olds, olds = cur.toList.take Ls.length := ⟨_, rfl⟩
      have h1 : olds.length = Ls.length := by rw [hol]; simp; omega
      have h2 : ∀ j, j < Ls.length → olds[j]? = cur[j]? := fun j hj => by
        rw [hol, List.getElem?_take, if_pos hj]
        simp
      have hr := _root_.Go.run_append_grow (P := Try.prog) w t ty 22 i0 (.slice none 0 0) ht hi hz0 ⟨b, 0, none⟩ Ls.length cap olds (by rw [hz1, h1, Nat.mul_one]) (fun j q hj => by
        have hjl : j < Ls.length := by rw [← h1]; exact (List.getElem?_eq_some_iff.1 hj).1
        rw [Addr.add_lit, Nat.zero_add, cell_of_row w b j cur _ _ hg, ← h2 j hjl]
        exact hj) ⟨g1, 0, none⟩ 1 1 [.slice p n c] (by rw [hz1]; rfl) hnews (by omega) (by omega) (growslice_fits (by omega) (by rw [hz2]; omega))
      have hf := fresh olds (grownCap w (Ls.length + 1) cap 22) h1 (grownCap_ge w _ cap _) (grownCap_le_maxLen w _ cap _ (by unfold maxLen; omega)) (fun i hi => by
        obtain ⟨p', n', c', e, hb'⟩ := hc i hi
        exact ⟨p', n', c', by rw [h2 i hi]; exact e, hb'⟩) (some b)
      exact ⟨_, _, hr, hf.1, hf.2, .inr rfl⟩
theorem LHd.low {Q : Nat → Prop} {w w' : World} {base : Nat} {v : Value} {ns : List (List Int)} (h : LHd Q w base v ns) (hg : w.grownBy w' v.ownBlock) (hb : base ≤ w.heap.size) : Below base w w' :=
  ⟨hg.os, hg.tape, hg.output, hg.size, fun k hk => hg.block k (Nat.lt_of_lt_of_le hk hb) (fun e => by have := (h.own k e.symm).2.1; omega)⟩
theorem wpList_appLH {Q : Nat → Prop} (w : World) {ops : Array Oper} {rest : List Oper} {o : Oper} {a : Act} {Qe : Exit → Act → World → Prop} (hgd : o.guard = none) (s x : Operand) (t : TypeId)
    (ho : o.op = .call { callee := .builtin .append, args := #[s, x], argTypes := #[t, t] }) (ht : Try.prog.underlying t = some (.slice 22))
    (base : Nat) (v : Value) (ns : List (List Int)) (hs : a.eval s = v) (hown : LHd Q w base v ns) (g1 : Nat) (p : Option Addr) (n c : Nat) (zs : List Int) (hx : a.eval x = .slice (some ⟨g1, 0, none⟩) 1 1) (hc : w.cell? ⟨g1, 0, none⟩ = some (.slice p n c)) (hz : LE Q w p n c zs)
    (hlen : ns.length < 1000000) (hbase : base ≤ w.heap.size)
    (h : ∀ v' w', LHd Q w' base v' (ns ++ [zs]) → w.grownBy w' v.ownBlock → wpList Try.prog ops Qe rest (a.put o.dst v') w') : wpList Try.prog ops Qe (o :: rest) a w := by
  obtain ⟨v', w', hr, h1, h2, -⟩ := run_appLH w t o.type ht hown hbase hc hz (by omega)
  exact Lib.wpList_append_run w hgd s x t t ho v _ hs hx v' w' hr (h v' w' h1 h2)
theorem wpList_appLHw {Q : Nat → Prop} (w : World) {ops : Array Oper} {rest : List Oper} {o : Oper} {a : Act} {Qe : Exit → Act → World → Prop} (hgd : o.guard = none) (s x : Operand) (t : TypeId)
    (ho : o.op = .call { callee := .builtin .append, args := #[s, x], argTypes := #[t, t] }) (ht : Try.prog.underlying t = some (.slice 22))
    (base : Nat) (v : Value) (ns : List (List Int)) (hs : a.eval s = v) (hown : LHd Q w base v ns) (g1 : Nat) (p : Option Addr) (n c : Nat) (zs : List Int) (hx : a.eval x = .slice (some ⟨g1, 0, none⟩) 1 1) (hc : w.cell? ⟨g1, 0, none⟩ = some (.slice p n c)) (hz : LE Q w p n c zs)
    (hlen : ns.length ≤ 2932031007402) (hbase : base ≤ w.heap.size)
    (h : ∀ v' w', LHd Q w' base v' (ns ++ [zs]) → w.grownBy w' v.ownBlock → wpList Try.prog ops Qe rest (a.put o.dst v') w') : wpList Try.prog ops Qe (o :: rest) a w := by
  obtain ⟨v', w', hr, h1, h2, -⟩ := run_appLH w t o.type ht hown hbase hc hz hlen
  exact Lib.wpList_append_run w hgd s x t t ho v _ hs hx v' w' hr (h v' w' h1 h2)
theorem LHd.only {Q Q' C : Nat → Prop} {w w' : World} {base : Nat} {v : Value} {ns : List (List Int)} (h : LHd Q w base v ns) (k : Only C w w') (hv : ∀ b, v.ownBlock = some b → ¬ C b) (hQ : ∀ b, Q b → ¬ C b ∧ Q' b) : LHd Q' w' base v ns := by
  rcases h with h | ⟨b, cap, cur, rfl, h0, hb2, h1, h2, hs, hc, hi⟩
  · exact .inl h
  · refine .inr ⟨b, cap, cur, rfl, h0, (k.block b (Array.getElem?_eq_some_iff.1 hb2).1 (hv b rfl)).trans hb2, h1, h2, hs, hc, fun i hi' => ?_⟩
    obtain ⟨p, n, c, e, hn⟩ := hi i hi'
    exact ⟨p, n, c, e, lsts_only15 hn.1 k (fun ad e => (hQ _ (hn.2 ad e)).1), fun ad e => (hQ _ (hn.2 ad e)).2⟩
/-- A row that was just made, of no numbers. -/
theorem IOwn.empty (w : World) : IOwn (w.alloc (.cells #[] 3)) w.heap.size (.slice (some ⟨w.heap.size, 0, none⟩) 0 0) [] := ⟨rfl, .inr ⟨w.heap.size, 0, #[], rfl, Nat.le_refl _, heap_alloc_new _ _, Nat.le_refl _, Nat.zero_le _, rfl, rfl⟩⟩
/-- A whole list is appended. -/
theorem run_appIs (w : World) (ty : TypeId) {base : Nat} {v : Value} {xs : List Int} (h : IOwn w base v xs) {a : Option Addr} {l c : Nat} {ys : List Int} (hL : Lsts w a l c ys) (hn : xs.length + l < 1000000) (hbase : base ≤ w.heap.size) :
    ∃ v' w', (Builtin.append_ #[22, 22] ty #[v, .slice a l c]).run Try.prog w = .ok v' w' ∧ IOwn w' base v' (xs ++ ys) ∧ w.grownBy w' v.ownBlock := by
  obtain ⟨i0, hi, hz0, hz1, hz2⟩ := info_parts Try.infoI
  have hlen := hL.hlen
  cases a with
  | none =>
    have e : l = 0 := by
      rcases Nat.eq_zero_or_pos l with e | e
      · exact e
      · obtain ⟨b, off, q, _⟩ := hL.cells e
        cases q
    subst e
    have ey : ys = [] := List.eq_nil_of_length_eq_zero hlen
    subst ey
    have hrun := run_append_nil (P := Try.prog) (w := w) base 22 ty 3 i0 1 Try.underlying22 hi _ _ _ h c
    exact ⟨v, w, hrun, by rw [List.append_nil]; exact h, ⟨rfl, rfl, rfl, Nat.le_refl _, fun _ _ _ => rfl⟩⟩
  | some ad =>
    obtain ⟨v', w', hr, h2, h3, _⟩ := run_append_own (P := Try.prog) w base 22 ty 3 i0 (.int .i64 0) 1 8 Try.underlying22 hi hz0 hz1 hz2 rfl (by decide) v xs.length (xs.map (Value.int .i64)) h ad l c (ys.map (Value.int .i64)) (by simp [hlen]) (fun j u hj => by
      have hjl : j < l := by have := (List.getElem?_eq_some_iff.1 hj).1; simp at this; omega
      obtain ⟨b, off, q, hc⟩ := hL.cells (by omega)
      cases q
      rw [Addr.add_lit, hc j hjl, ← hj, List.getElem?_map, List.getElem?_eq_getElem (by omega)]
      simp [List.getD, List.getElem?_eq_getElem (show j < ys.length by omega)]) (fun u hu => by obtain ⟨z, -, rfl⟩ := List.mem_map.1 hu; rfl) (by unfold maxLen; omega) (by omega) hbase
    refine ⟨v', w', hr, ?_, h3⟩
    unfold IOwn
    rw [List.length_append, List.map_append, hlen]
    exact h2
theorem wpList_appIs (w : World) {ops : Array Oper} {rest : List Oper} {o : Oper} {a : Act} {Q : Exit → Act → World → Prop} (hgd : o.guard = none) (s x : Operand)
    (ho : o.op = .call { callee := .builtin .append, args := #[s, x], argTypes := #[22, 22] })
    (base : Nat) (v : Value) (xs : List Int) (hs : a.eval s = v) (hown : IOwn w base v xs) (p : Option Addr) (l c : Nat) (ys : List Int) (hx : a.eval x = .slice p l c) (hL : Lsts w p l c ys) (hn : xs.length + l < 1000000) (hbase : base ≤ w.heap.size)
    (h : ∀ v' w', IOwn w' base v' (xs ++ ys) → w.grownBy w' v.ownBlock → wpList Try.prog ops Q rest (a.put o.dst v') w') : wpList Try.prog ops Q (o :: rest) a w := by
  obtain ⟨v', w', hr, h2, h3⟩ := run_appIs w o.type hown hL hn hbase
  exact Lib.wpList_append_run w hgd s x 22 22 ho v _ hs hx v' w' hr (h v' w' h2 h3)
theorem step_appIs (w : World) {ops : Array Oper} {o : Oper} {a : Act} {K : Act → World → Prop} {Q : Exit → Act → World → Prop} {E : Prop} (hgd : o.guard = none) (s x : Operand)
    (ho : o.op = .call { callee := .builtin .append, args := #[s, x], argTypes := #[22, 22] })
    (base : Nat) (v : Value) (xs : List Int) (hs : a.eval s = v) (hown : IOwn w base v xs) (p : Option Addr) (l c : Nat) (ys : List Int) (hx : a.eval x = .slice p l c) (hL : Lsts w p l c ys) (hn : xs.length + l < 1000000) (hbase : base ≤ w.heap.size)
    (h : ∀ v' w', IOwn w' base v' (xs ++ ys) → w.grownBy w' v.ownBlock → K (a.put o.dst v') w') : if Region.wanted o (yielded ops a.tmps) = true then Oper.wp Try.prog o a w K Q else E := by
  rw [if_pos (by simp [Region.wanted, hgd])]
  obtain ⟨v', w', hr, h2, h3⟩ := run_appIs w o.type hown hL hn hbase
  unfold Oper.wp
  simp [execOp, ho, resolve, invoke, builtin, hs, hx, hr, Result.andThen]
  exact h v' w' h2 h3
theorem step_appLH {Q : Nat → Prop} (w : World) {ops : Array Oper} {o : Oper} {a : Act} {K : Act → World → Prop} {Qe : Exit → Act → World → Prop} {E : Prop} (hgd : o.guard = none) (s x : Operand) (t : TypeId)
    (ho : o.op = .call { callee := .builtin .append, args := #[s, x], argTypes := #[t, t] }) (ht : Try.prog.underlying t = some (.slice 22))
    (base : Nat) (v : Value) (ns : List (List Int)) (hs : a.eval s = v) (hown : LHd Q w base v ns) (g1 : Nat) (p : Option Addr) (n c : Nat) (zs : List Int) (hx : a.eval x = .slice (some ⟨g1, 0, none⟩) 1 1) (hc : w.cell? ⟨g1, 0, none⟩ = some (.slice p n c)) (hz : LE Q w p n c zs)
    (hlen : ns.length < 1000000) (hbase : base ≤ w.heap.size)
    (h : ∀ v' w', LHd Q w' base v' (ns ++ [zs]) → w.grownBy w' v.ownBlock → K (a.put o.dst v') w') : if Region.wanted o (yielded ops a.tmps) = true then Oper.wp Try.prog o a w K Qe else E := by
  rw [if_pos (by simp [Region.wanted, hgd])]
  obtain ⟨v', w', hr, h1, h2, -⟩ := run_appLH w t o.type ht hown hbase hc hz (by omega)
  unfold Oper.wp
  simp [execOp, ho, resolve, invoke, builtin, hs, hx, hr, Result.andThen]
  exact h v' w' h1 h2
/-- What a row of the call's own turns. -/
theorem IOwn.low {w w' : World} {base : Nat} {v : Value} {xs : List Int} (h : IOwn w base v xs) (hg : w.grownBy w' v.ownBlock) (hb : base ≤ w.heap.size) : Below base w w' :=
  ⟨hg.os, hg.tape, hg.output, hg.size, fun k hk => hg.block k (Nat.lt_of_lt_of_le hk hb) (fun e => by have := (World.ownsRow.lt h k e.symm).1; omega)⟩
end Go.Proofs.Ytaiikhbfnfcalab
