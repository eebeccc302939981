/-
  Rows of tables that are appended to; tables that have nothing in a block.
  DatasetMeets: its statements. Written by mk/p15d.py.
  DatasetMeets: its statements. Written by mk/p15d.py.
  DatasetMeets: its loops, its walk. Written by mk/p15d.py.
-/
import Derived.Test.YtaiikhbfnfcalaaR15A
import Derived.Test.YtaiikhbfnfcalaaR15K
import Derived.Maps.AppendAt
import Derived.Test.YtaiikhbfnfcalaaB15O
import Derived.Test.YtaiikhbfnfcalaaPieces
import Derived.Deep.RegionHeld3
namespace Go.Proofs.Ytaiikhbfnfcalaa
open Go.RowKit

theorem lsts_kept15 {w w' : World} {row : Option Nat} {a : Option Addr} {l c : Nat} {xs : List Int} (h : Lsts w a l c xs) (hg : w.grownBy w' row) (hs : ∀ b, row = some b → ∀ ad, a = some ad → 0 < l → ad.block ≠ b) : Lsts w' a l c xs := ⟨h.hlen, h.hcap, h.hmax, fun hp => by
  obtain ⟨b, off, e, hc⟩ := h.cells hp
  refine ⟨b, off, e, fun i hi => ?_⟩
  rw [← hc i hi]
  exact World.cell?_of_block (hg.block b (World.block_lt_of_cell? w _ (hc i hi)) (fun q => hs b q.symm ⟨b, off, none⟩ e hp rfl)), h.word⟩
theorem lsts_lt15 {w : World} {a : Option Addr} {l c : Nat} {xs : List Int} (h : Lsts w a l c xs) (ad : Addr) (e : a = some ad) (hl : 0 < l) : ad.block < w.heap.size := by
  obtain ⟨b, off, e2, hc⟩ := h.cells hl
  rw [e] at e2
  cases e2
  exact World.block_lt_of_cell? w _ (hc 0 hl)
/-- No cell of a table lies in block b. -/
structure Sep15 (b : Nat) (w : World) (u : TV) : Prop where
  ids : ∀ ad, u.p0 = some ad → 0 < u.l0 → ad.block ≠ b
  bins : ∀ ad, u.p1 = some ad → 0 < u.l1 → ad.block ≠ b
  row : ∀ ad, u.p2 = some ad → 0 < u.l2 → ad.block ≠ b
  ent : ∀ ad i p n k, u.p2 = some ad → i < u.l2 → w.cell? ⟨ad.block, ad.off + i, none⟩ = some (.slice p n k) → 0 < n → ∀ a, p = some a → a.block ≠ b
theorem tabAt_kept15 {w w' : World} {row : Option Nat} {u : TV} {t : Tab} (h : TabAt w u t) (hg : w.grownBy w' row) (hs : ∀ b, row = some b → Sep15 b w u) : TabAt w' u t ∧ ∀ b, Sep15 b w u → Sep15 b w' u := by
  have hcell : ∀ ad i, u.p2 = some ad → i < u.l2 → ∃ p n k, w.cell? ⟨ad.block, ad.off + i, none⟩ = some (.slice p n k) ∧ w'.cell? ⟨ad.block, ad.off + i, none⟩ = some (.slice p n k) := fun ad i e hi => by
    obtain ⟨b, off, e2, hc⟩ := h.cols.cells (by omega)
    rw [e] at e2
    cases e2
    obtain ⟨p, n, k, h1, -⟩ := hc i hi
    exact ⟨p, n, k, h1, (World.cell?_of_block (hg.block b (World.block_lt_of_cell? w _ h1) (fun q => (hs b q.symm).row ⟨b, off, none⟩ e (by omega) rfl))).trans h1⟩
  refine ⟨⟨lsts_kept15 h.ids hg (fun b q => (hs b q).ids), lsts_kept15 h.bins hg (fun b q => (hs b q).bins), ⟨h.cols.hlen, h.cols.hcap, h.cols.hmax, fun hp => ?_⟩⟩, fun b k => ⟨k.ids, k.bins, k.row, fun ad i p n c e hi hc => ?_⟩⟩
  · obtain ⟨b, off, e, hc⟩ := h.cols.cells hp
    refine ⟨b, off, e, fun i hi => ?_⟩
    obtain ⟨p, n, k, h1, h2⟩ := hc i hi
    obtain ⟨p', n', k', h3, h4⟩ := hcell ⟨b, off, none⟩ i e hi
    rw [h1] at h3
    cases h3
    exact ⟨p, n, k, h4, lsts_kept15 h2 hg (fun b' q ad e2 hn => (hs b' q).ent ⟨b, off, none⟩ i p n k e hi h1 hn ad e2)⟩
  · obtain ⟨p', n', k', h3, h4⟩ := hcell ad i e hi
    rw [hc] at h4
    cases h4
    exact k.ent ad i p n c e hi h3
theorem Sep15.new {w : World} {u : TV} {t : Tab} (h : TabAt w u t) : Sep15 w.heap.size w u := by
  refine ⟨fun ad e hl => ?_, fun ad e hl => ?_, fun ad e hl => ?_, fun ad i p n k e hi hc hn a ea => ?_⟩
  · have := lsts_lt15 h.ids ad e hl
    omega
  · have := lsts_lt15 h.bins ad e hl
    omega
  · obtain ⟨b, off, e2, hc⟩ := h.cols.cells hl
    rw [e] at e2
    cases e2
    obtain ⟨p, n, k, h1, -⟩ := hc 0 hl
    have : b < w.heap.size := World.block_lt_of_cell? w _ h1
    show b ≠ _
    omega
  · obtain ⟨b, off, e2, hc2⟩ := h.cols.cells (by omega)
    rw [e] at e2
    cases e2
    obtain ⟨p', n', k', h1, h2⟩ := hc2 i hi
    rw [hc] at h1
    cases h1
    have := lsts_lt15 h2 a ea hn
    omega
theorem Sep15.of_new {H b : Nat} {w : World} {u : TV} {t : Tab} (h : TabF (fun x => H ≤ x) w u t) (hb : b < H) : Sep15 b w u := by
  refine ⟨fun ad e _ => ?_, fun ad e _ => ?_, fun ad e _ => ?_, fun ad i p n k e hi hc _ a ea => ?_⟩
  · have := h.ids.2 ad e
    omega
  · have := h.bins.2 ad e
    omega
  · have := h.row ad e
    omega
  · have := h.ent ad i p n k e hi hc a ea
    omega
/-- A row of tables that is appended to, from block 'base' on. -/
def TOwn (w : World) (base : Nat) (v : Value) (ts : List Tab) : Prop := ∃ xs, w.ownsRow base 25 3 v ts.length xs ∧ ∀ i, i < ts.length → ∃ u : TV, (xs[i * 3]? = some (.slice u.p0 u.l0 u.c0) ∧ xs[i * 3 + 1]? = some (.slice u.p1 u.l1 u.c1) ∧ xs[i * 3 + 2]? = some (.slice u.p2 u.l2 u.c2)) ∧ TabAt w u (ts.getD i Tab.none) ∧ ∀ b, v.ownBlock = some b → Sep15 b w u
theorem TOwn.nil (w : World) (base : Nat) : TOwn w base (.slice none 0 0) [] := ⟨[], ⟨rfl, .inl ⟨rfl, rfl⟩⟩, fun i hi => absurd hi (Nat.not_lt_zero i)⟩
theorem TOwn.lt {w : World} {base : Nat} {v : Value} {ts : List Tab} (h : TOwn w base v ts) : ∀ k, v.ownBlock = some k → base ≤ k ∧ k < w.heap.size := by
  obtain ⟨xs, h1, -⟩ := h
  exact h1.lt
theorem TOwn.below {w w' : World} {base : Nat} {v : Value} {ts : List Tab} (h : TOwn w base v ts) (hb : Below w.heap.size w w') : TOwn w' base v ts := by
  obtain ⟨xs, h1, h2⟩ := h
  have hg := grown_of_below hb none
  refine ⟨xs, h1.kept hg (by cases v.ownBlock <;> simp), fun i hi => ?_⟩
  obtain ⟨u, h3, h4, h5⟩ := h2 i hi
  have h6 := tabAt_kept15 h4 hg (fun b e => by cases e)
  exact ⟨u, h3, h6.1, fun b e => h6.2 b (h5 b e)⟩
theorem TOwn.rows {w : World} {base : Nat} {v : Value} {ts : List Tab} (h : TOwn w base v ts) : ∃ a c, v = .slice a ts.length c ∧ TRows w a ts.length c ts := by
  obtain ⟨xs, h1, h2⟩ := h
  have h0 := h1
  rcases h1.2 with ⟨rfl, h3⟩ | ⟨g, cap, cur, rfl, -, -, h4, h5, -⟩
  · rw [h3]
    exact ⟨none, 0, rfl, h3, Nat.le_refl _, Nat.zero_le _, fun hp => absurd hp (Nat.lt_irrefl _)⟩
  · refine ⟨_, cap, rfl, rfl, h4, h5, fun hp => ⟨g, 0, rfl, fun i hi => ?_⟩⟩
    obtain ⟨u, ⟨k0, k1, k2⟩, h6, -⟩ := h2 i hi
    refine ⟨u, ⟨?_, ?_, ?_⟩, h6⟩
    · rw [Nat.zero_add, h0.cellAt _ (by omega)]
      exact k0
    · rw [Nat.zero_add, h0.cellAt _ (by omega)]
      exact k1
    · rw [Nat.zero_add, h0.cellAt _ (by omega)]
      exact k2
theorem Try.infoT15 : (Try.prog.info? 25).map (fun i => (i.zero, i.size, i.bytes)) = some (some (.agg #[.slice none 0 0, .slice none 0 0, .slice none 0 0]), 3, 72) := by kernel_rfl
/-- One table more is appended. -/
theorem run_appT (w : World) (ty : TypeId) {base : Nat} {v : Value} {ts : List Tab} (h : TOwn w base v ts) (hbase : base ≤ w.heap.size) {g1 : Nat} {u : TV} {t : Tab} (x0 : w.cell? ⟨g1, 0, none⟩ = some (.slice u.p0 u.l0 u.c0)) (x1 : w.cell? ⟨g1, 1, none⟩ = some (.slice u.p1 u.l1 u.c1)) (x2 : w.cell? ⟨g1, 2, none⟩ = some (.slice u.p2 u.l2 u.c2))
    (ht : TabAt w u t) (hs : ∀ b, v.ownBlock = some b → Sep15 b w u) (hl : ts.length < 1000000) :
    ∃ v' w', (Builtin.append_ #[37, 37] ty #[v, .slice (some ⟨g1, 0, none⟩) 1 1]).run Try.prog w = .ok v' w' ∧ TOwn w' base v' (ts ++ [t]) ∧ w.grownBy w' v.ownBlock := by
  obtain ⟨i0, hi, hz0, hz1, hz2⟩ := info_parts Try.infoT15
  obtain ⟨xs, h1, h2⟩ := h
  have hxl := h1.1
  obtain ⟨v', w', hr, k1, k2, -, k4⟩ := run_append_own_at w base 37 ty 25 i0 _ 3 72 Try.underlying37 hi hz0 hz1 hz2 rfl (by decide) v ts.length xs h1 ⟨g1, 0, none⟩ 1 1 [.slice u.p0 u.l0 u.c0, .slice u.p1 u.l1 u.c1, .slice u.p2 u.l2 u.c2] rfl (fun j q hj => by
    rw [Addr.add_lit]
    match j, hj with
    | 0, hj => simp at hj; subst hj; exact x0
    | 1, hj => simp at hj; subst hj; exact x1
    | 2, hj => simp at hj; subst hj; exact x2) (fun q hq => by
    simp at hq
    rcases hq with rfl | rfl | rfl <;> rfl) (by unfold maxLen; omega) (by omega) hbase
  refine ⟨v', w', hr, ⟨_, by simpa using k1, fun i hi' => ?_⟩, k2⟩
  have new : ∀ (u' : TV) (t' : Tab), TabAt w u' t' → (∀ b, v.ownBlock = some b → Sep15 b w u') → TabAt w' u' t' ∧ ∀ b, v'.ownBlock = some b → Sep15 b w' u' := fun u' t' a1 a2 => by
    have a3 := tabAt_kept15 a1 k2 a2
    refine ⟨a3.1, fun b e => a3.2 b ?_⟩
    rcases k4 with q | q
    · exact a2 b (q.symm.trans e)
    · rw [q] at e
      cases e
      exact Sep15.new a1
  by_cases q : i < ts.length
  · obtain ⟨u', ⟨y0, y1, y2⟩, a1, a2⟩ := h2 i q
    obtain ⟨a3, a4⟩ := new u' _ a1 a2
    refine ⟨u', ⟨?_, ?_, ?_⟩, ?_, a4⟩
    · rw [List.getElem?_append_left (by omega)]; exact y0
    · rw [List.getElem?_append_left (by omega)]; exact y1
    · rw [List.getElem?_append_left (by omega)]; exact y2
    · rw [show (ts ++ [t]).getD i Tab.none = ts.getD i Tab.none by unfold List.getD; rw [List.getElem?_append_left q]]
      exact a3
  · obtain rfl : i = ts.length := by simp at hi'; omega
    obtain ⟨a3, a4⟩ := new u t ht hs
    refine ⟨u, ⟨?_, ?_, ?_⟩, ?_, a4⟩
    · rw [List.getElem?_append_right (by omega), hxl]; simp
    · rw [List.getElem?_append_right (by omega), hxl]; simp
    · rw [List.getElem?_append_right (by omega), hxl]; simp
    · rw [show (ts ++ [t]).getD ts.length Tab.none = t by simp [List.getD]]
      exact a3
theorem wpList_appT (w : World) {ops : Array Oper} {rest : List Oper} {o : Oper} {a : Act} {Qe : Exit → Act → World → Prop} (hgd : o.guard = none) (s x : Operand)
    (ho : o.op = .call { callee := .builtin .append, args := #[s, x], argTypes := #[37, 37] })
    (base : Nat) (v : Value) (ts : List Tab) (hs : a.eval s = v) (hown : TOwn w base v ts) (g1 : Nat) (u : TV) (t : Tab) (hx : a.eval x = .slice (some ⟨g1, 0, none⟩) 1 1) (x0 : w.cell? ⟨g1, 0, none⟩ = some (.slice u.p0 u.l0 u.c0)) (x1 : w.cell? ⟨g1, 1, none⟩ = some (.slice u.p1 u.l1 u.c1)) (x2 : w.cell? ⟨g1, 2, none⟩ = some (.slice u.p2 u.l2 u.c2))
    (ht : TabAt w u t) (hsp : ∀ b, v.ownBlock = some b → Sep15 b w u) (hlen : ts.length < 1000000) (hbase : base ≤ w.heap.size)
    (h : ∀ v' w', TOwn w' base v' (ts ++ [t]) → w.grownBy w' v.ownBlock → wpList Try.prog ops Qe rest (a.put o.dst v') w') : wpList Try.prog ops Qe (o :: rest) a w := by
  obtain ⟨v', w', hr, h1, h2⟩ := run_appT w o.type hown hbase x0 x1 x2 ht hsp hlen
  exact Lib.wpList_append_run w hgd s x _ _ ho v _ hs hx v' w' hr (h v' w' h1 h2)
theorem TOwn.low {w w' : World} {base : Nat} {v : Value} {ts : List Tab} (h : TOwn w base v ts) (hg : w.grownBy w' v.ownBlock) (hb : base ≤ w.heap.size) : Below base w w' :=
  ⟨hg.os, hg.tape, hg.output, hg.size, fun k hk => hg.block k (Nat.lt_of_lt_of_le hk hb) (fun e => by have := (h.lt k e.symm).1; omega)⟩
end Go.Proofs.Ytaiikhbfnfcalaa

namespace Go.Proofs.Ytaiikhbfnfcalaa
open Go.RowKit

set_option maxRecDepth 100000 in
set_option maxHeartbeats 12800000 in
theorem me_p0 {x0 x1 x2 x3 x4 x5 x6 x7 x8 x9 x10 x11 x12 x13 x14 x15 x16 x17 x18 x19 x20 x21 x22 x23 x24 x25 x26 x27 x28 x29 x30 x31 x32 x33 x34 x35 x36 x37 x38 x39 x40 x41 x42 x43 x44 x45 x46 x47 x48 x49 x50 x51 x52 x53 x54 x55 x56 x57 x58 x59 x60 x61 x62 x63 x64 x65 x66 x67 x68 x69 x70 x71 x72 x73 x74 x75 x76 x77 x78 x79 x80 x81 x82 x83 x84 x85 x86 x87 x88 x89 x90 x91 x92 x93 x94 x95 x96 x97 x98 x99 x100 x101 x102 x103 x104 x105 x106 x107 x108 x109 x110 x111 x112 x113 x114 x115 x116 x117 x118 x119 x120 x121 x122 x123 : Value} {Q : Exit → Act → World → Prop} {W : World} 
    (hN : Q .normal ⟨#[x0, x1, .bool false, x3, x4, x5, x6, x7, x8, x9, x10, x11, x12, x13, x14, x15, x16, x17, x18, x19, x20, x21, x22, x23, x24, x25, x26, x27, x28, x29, x30, x31, x32, x33, x34, x35, x36, x37, x38, x39, x40, x41, x42, x43, x44, x45, x46, x47, x48, x49, x50, x51, x52, x53, x54, x55, x56, x57, x58, x59, x60, x61, x62, x63, x64, x65, x66, x67, x68, x69, x70, x71, x72, x73, x74, x75, x76, x77, x78, x79, x80, x81, x82, x83, x84, x85, x86, x87, x88, x89, x90, x91, x92, x93, x94, x95, x96, x97, x98, x99, x100, x101, x102, x103, x104, x105, x106, x107, x108, x109, x110, x111, x112, x113, x114, x115, x116, x117, x118, x119, x120, x121, x122, x123], []⟩ W) :
    Code.wp Try.prog ((Try.f8.body.bind (pcAt 0)).getD .skip) Q ⟨#[x0, x1, x2, x3, x4, x5, x6, x7, x8, x9, x10, x11, x12, x13, x14, x15, x16, x17, x18, x19, x20, x21, x22, x23, x24, x25, x26, x27, x28, x29, x30, x31, x32, x33, x34, x35, x36, x37, x38, x39, x40, x41, x42, x43, x44, x45, x46, x47, x48, x49, x50, x51, x52, x53, x54, x55, x56, x57, x58, x59, x60, x61, x62, x63, x64, x65, x66, x67, x68, x69, x70, x71, x72, x73, x74, x75, x76, x77, x78, x79, x80, x81, x82, x83, x84, x85, x86, x87, x88, x89, x90, x91, x92, x93, x94, x95, x96, x97, x98, x99, x100, x101, x102, x103, x104, x105, x106, x107, x108, x109, x110, x111, x112, x113, x114, x115, x116, x117, x118, x119, x120, x121, x122, x123], []⟩ W := by
  conv => arg 2; whnf
  have HN : Hid (Q .normal ⟨#[x0, x1, .bool false, x3, x4, x5, x6, x7, x8, x9, x10, x11, x12, x13, x14, x15, x16, x17, x18, x19, x20, x21, x22, x23, x24, x25, x26, x27, x28, x29, x30, x31, x32, x33, x34, x35, x36, x37, x38, x39, x40, x41, x42, x43, x44, x45, x46, x47, x48, x49, x50, x51, x52, x53, x54, x55, x56, x57, x58, x59, x60, x61, x62, x63, x64, x65, x66, x67, x68, x69, x70, x71, x72, x73, x74, x75, x76, x77, x78, x79, x80, x81, x82, x83, x84, x85, x86, x87, x88, x89, x90, x91, x92, x93, x94, x95, x96, x97, x98, x99, x100, x101, x102, x103, x104, x105, x106, x107, x108, x109, x110, x111, x112, x113, x114, x115, x116, x117, x118, x119, x120, x121, x122, x123], []⟩ W) := hN
  clear hN
  go_wp2_with fail
  exact HN.out   

set_option maxRecDepth 100000 in
set_option maxHeartbeats 12800000 in
theorem me_p1 {x0 x1 x2 x3 x4 x5 x6 x7 x8 x9 x10 x11 x12 x13 x14 x15 x16 x17 x18 x19 x20 x21 x22 x23 x24 x25 x26 x27 x28 x29 x30 x31 x32 x33 x34 x35 x36 x37 x38 x39 x40 x41 x42 x43 x44 x45 x46 x47 x48 x49 x50 x51 x52 x53 x54 x55 x56 x57 x58 x59 x60 x61 x62 x63 x64 x65 x66 x67 x68 x69 x70 x71 x72 x73 x74 x75 x76 x77 x78 x79 x80 x81 x82 x83 x84 x85 x86 x87 x88 x89 x90 x91 x92 x93 x94 x95 x96 x97 x98 x99 x100 x101 x102 x103 x104 x105 x106 x107 x108 x109 x110 x111 x112 x113 x114 x115 x116 x117 x118 x119 x120 x121 x122 x123 : Value} {Q : Exit → Act → World → Prop} {W : World} (OA : AliOk15)
    (hN : ∀ (wx : World) (y19 : Value), Below W.heap.size W wx → Q .normal ⟨#[x0, x1, x2, .bool true, x4, x5, x6, x7, x8, x9, x10, x11, x12, x13, x14, x15, x16, x17, x18, y19, x20, x21, x22, x23, x24, x25, x26, x27, x28, x29, x30, x31, x32, x33, x34, x35, x36, x37, x38, x39, x40, x41, x42, x43, x44, x45, x46, x47, x48, x49, x50, x51, x52, x53, x54, x55, x56, x57, x58, x59, x60, x61, x62, x63, x64, x65, x66, x67, x68, x69, x70, x71, x72, x73, x74, x75, x76, x77, x78, x79, x80, x81, x82, x83, x84, x85, x86, x87, x88, x89, x90, x91, x92, x93, x94, x95, x96, x97, x98, x99, x100, x101, x102, x103, x104, x105, x106, x107, x108, x109, x110, x111, x112, x113, x114, x115, x116, x117, x118, x119, x120, x121, x122, x123], []⟩ wx) :
    Code.wp Try.prog ((Try.f8.body.bind (pcAt 1)).getD .skip) Q ⟨#[x0, x1, x2, x3, x4, x5, x6, x7, x8, x9, x10, x11, x12, x13, x14, x15, x16, x17, x18, x19, x20, x21, x22, x23, x24, x25, x26, x27, x28, x29, x30, x31, x32, x33, x34, x35, x36, x37, x38, x39, x40, x41, x42, x43, x44, x45, x46, x47, x48, x49, x50, x51, x52, x53, x54, x55, x56, x57, x58, x59, x60, x61, x62, x63, x64, x65, x66, x67, x68, x69, x70, x71, x72, x73, x74, x75, x76, x77, x78, x79, x80, x81, x82, x83, x84, x85, x86, x87, x88, x89, x90, x91, x92, x93, x94, x95, x96, x97, x98, x99, x100, x101, x102, x103, x104, x105, x106, x107, x108, x109, x110, x111, x112, x113, x114, x115, x116, x117, x118, x119, x120, x121, x122, x123], []⟩ W := by
  conv => arg 2; whnf
  have HN : Hid (∀ (wx : World) (y19 : Value), Below W.heap.size W wx → Q .normal ⟨#[x0, x1, x2, .bool true, x4, x5, x6, x7, x8, x9, x10, x11, x12, x13, x14, x15, x16, x17, x18, y19, x20, x21, x22, x23, x24, x25, x26, x27, x28, x29, x30, x31, x32, x33, x34, x35, x36, x37, x38, x39, x40, x41, x42, x43, x44, x45, x46, x47, x48, x49, x50, x51, x52, x53, x54, x55, x56, x57, x58, x59, x60, x61, x62, x63, x64, x65, x66, x67, x68, x69, x70, x71, x72, x73, x74, x75, x76, x77, x78, x79, x80, x81, x82, x83, x84, x85, x86, x87, x88, x89, x90, x91, x92, x93, x94, x95, x96, x97, x98, x99, x100, x101, x102, x103, x104, x105, x106, x107, x108, x109, x110, x111, x112, x113, x114, x115, x116, x117, x118, x119, x120, x121, x122, x123], []⟩ wx) := hN
  clear hN
  have HA := (show Hid _ from awake15_any OA W)
  go_wp2_with fail
  refine Calls.mono HA.out ?_
  rintro e wx ⟨rfl, h1⟩
  have HT : Hid (Below W.heap.size W wx) := h1
  clear HA h1
  dsimp only
  go_wp2_with fail
  exact HN.out wx _ HT.out

set_option maxRecDepth 100000 in
set_option maxHeartbeats 12800000 in
theorem me_p2 {x0 x1 x2 x3 x4 x5 x6 x7 x8 x9 x10 x11 x12 x13 x14 x15 x16 x17 x18 x19 x20 x21 x22 x23 x24 x25 x26 x27 x28 x29 x30 x31 x32 x33 x34 x35 x36 x37 x38 x39 x40 x41 x42 x43 x44 x45 x46 x47 x48 x49 x50 x51 x52 x53 x54 x55 x56 x57 x58 x59 x60 x61 x62 x63 x64 x65 x66 x67 x68 x69 x70 x71 x72 x73 x74 x75 x76 x77 x78 x79 x80 x81 x82 x83 x84 x85 x86 x87 x88 x89 x90 x91 x92 x93 x94 x95 x96 x97 x98 x99 x100 x101 x102 x103 x104 x105 x106 x107 x108 x109 x110 x111 x112 x113 x114 x115 x116 x117 x118 x119 x120 x121 x122 x123 : Value} {Q : Exit → Act → World → Prop} {W : World} 
    (hN : Q .normal ⟨#[x0, x1, x2, x3, .slice none 0 0, x5, x6, x7, x8, x9, x10, x11, x12, x13, x14, x15, x16, x17, x18, x19, x20, x21, x22, x23, x24, x25, x26, x27, x28, x29, x30, x31, x32, x33, x34, x35, x36, x37, x38, x39, x40, x41, x42, x43, x44, x45, x46, x47, x48, x49, x50, x51, x52, x53, x54, x55, x56, x57, x58, x59, x60, x61, x62, x63, x64, x65, x66, x67, x68, x69, x70, x71, x72, x73, x74, x75, x76, x77, x78, x79, x80, x81, x82, x83, x84, x85, x86, x87, x88, x89, x90, x91, x92, x93, x94, x95, x96, x97, x98, x99, x100, x101, x102, x103, x104, x105, x106, x107, x108, x109, x110, x111, x112, x113, x114, x115, x116, x117, x118, x119, x120, x121, x122, x123], []⟩ W) :
    Code.wp Try.prog ((Try.f8.body.bind (pcAt 2)).getD .skip) Q ⟨#[x0, x1, x2, x3, x4, x5, x6, x7, x8, x9, x10, x11, x12, x13, x14, x15, x16, x17, x18, x19, x20, x21, x22, x23, x24, x25, x26, x27, x28, x29, x30, x31, x32, x33, x34, x35, x36, x37, x38, x39, x40, x41, x42, x43, x44, x45, x46, x47, x48, x49, x50, x51, x52, x53, x54, x55, x56, x57, x58, x59, x60, x61, x62, x63, x64, x65, x66, x67, x68, x69, x70, x71, x72, x73, x74, x75, x76, x77, x78, x79, x80, x81, x82, x83, x84, x85, x86, x87, x88, x89, x90, x91, x92, x93, x94, x95, x96, x97, x98, x99, x100, x101, x102, x103, x104, x105, x106, x107, x108, x109, x110, x111, x112, x113, x114, x115, x116, x117, x118, x119, x120, x121, x122, x123], []⟩ W := by
  conv => arg 2; whnf
  have HN : Hid (Q .normal ⟨#[x0, x1, x2, x3, .slice none 0 0, x5, x6, x7, x8, x9, x10, x11, x12, x13, x14, x15, x16, x17, x18, x19, x20, x21, x22, x23, x24, x25, x26, x27, x28, x29, x30, x31, x32, x33, x34, x35, x36, x37, x38, x39, x40, x41, x42, x43, x44, x45, x46, x47, x48, x49, x50, x51, x52, x53, x54, x55, x56, x57, x58, x59, x60, x61, x62, x63, x64, x65, x66, x67, x68, x69, x70, x71, x72, x73, x74, x75, x76, x77, x78, x79, x80, x81, x82, x83, x84, x85, x86, x87, x88, x89, x90, x91, x92, x93, x94, x95, x96, x97, x98, x99, x100, x101, x102, x103, x104, x105, x106, x107, x108, x109, x110, x111, x112, x113, x114, x115, x116, x117, x118, x119, x120, x121, x122, x123], []⟩ W) := hN
  clear hN
  go_wp2_with fail
  exact HN.out   

set_option maxRecDepth 100000 in
set_option maxHeartbeats 12800000 in
theorem me_t4 {x1 x2 x3 x4 x6 x7 x8 x9 x10 x11 x12 x13 x14 x15 x16 x17 x18 x19 x20 x21 x22 x23 x24 x25 x26 x27 x28 x29 x30 x31 x32 x33 x34 x35 x36 x37 x38 x39 x40 x41 x42 x43 x44 x45 x46 x47 x48 x49 x50 x51 x52 x53 x54 x55 x56 x57 x58 x59 x60 x61 x62 x63 x64 x65 x66 x67 x68 x69 x70 x71 x72 x73 x74 x75 x76 x77 x78 x79 x80 x81 x82 x83 x84 x85 x86 x87 x88 x89 x90 x91 x92 x93 x94 x95 x96 x97 x98 x99 x100 x101 x102 x103 x104 x105 x106 x107 x108 x109 x110 x111 x112 x113 x114 x115 x116 x117 x118 x119 x120 x121 x122 x123 : Value} {Q : Exit → Act → World → Prop} {W : World} {a : Option Addr} {l c i : Nat} (hi : i ≤ l)
    (hN : ∀ (y20 y21 y22 y23 : Value), i < l → Q .normal ⟨#[.slice a l c, x1, x2, x3, x4, .int .i64 (i : Int), x6, x7, x8, x9, x10, x11, x12, x13, x14, x15, x16, x17, x18, x19, y20, y21, y22, y23, x24, x25, x26, x27, x28, x29, x30, x31, x32, x33, x34, x35, x36, x37, x38, x39, x40, x41, x42, x43, x44, x45, x46, x47, x48, x49, x50, x51, x52, x53, x54, x55, x56, x57, x58, x59, x60, x61, x62, x63, x64, x65, x66, x67, x68, x69, x70, x71, x72, x73, x74, x75, x76, x77, x78, x79, x80, x81, x82, x83, x84, x85, x86, x87, x88, x89, x90, x91, x92, x93, x94, x95, x96, x97, x98, x99, x100, x101, x102, x103, x104, x105, x106, x107, x108, x109, x110, x111, x112, x113, x114, x115, x116, x117, x118, x119, x120, x121, x122, x123], []⟩ W)
    (hE : ∀ (y20 y21 y22 y23 : Value), i = l → Q (.exit 0) ⟨#[.slice a l c, x1, x2, x3, x4, .int .i64 (i : Int), x6, x7, x8, x9, x10, x11, x12, x13, x14, x15, x16, x17, x18, x19, y20, y21, y22, y23, x24, x25, x26, x27, x28, x29, x30, x31, x32, x33, x34, x35, x36, x37, x38, x39, x40, x41, x42, x43, x44, x45, x46, x47, x48, x49, x50, x51, x52, x53, x54, x55, x56, x57, x58, x59, x60, x61, x62, x63, x64, x65, x66, x67, x68, x69, x70, x71, x72, x73, x74, x75, x76, x77, x78, x79, x80, x81, x82, x83, x84, x85, x86, x87, x88, x89, x90, x91, x92, x93, x94, x95, x96, x97, x98, x99, x100, x101, x102, x103, x104, x105, x106, x107, x108, x109, x110, x111, x112, x113, x114, x115, x116, x117, x118, x119, x120, x121, x122, x123], []⟩ W) :
    Code.wp Try.prog (((Try.f8.body.bind (pcLoop 0)).bind (pcAt 4)).getD .skip) Q ⟨#[.slice a l c, x1, x2, x3, x4, .int .i64 (i : Int), x6, x7, x8, x9, x10, x11, x12, x13, x14, x15, x16, x17, x18, x19, x20, x21, x22, x23, x24, x25, x26, x27, x28, x29, x30, x31, x32, x33, x34, x35, x36, x37, x38, x39, x40, x41, x42, x43, x44, x45, x46, x47, x48, x49, x50, x51, x52, x53, x54, x55, x56, x57, x58, x59, x60, x61, x62, x63, x64, x65, x66, x67, x68, x69, x70, x71, x72, x73, x74, x75, x76, x77, x78, x79, x80, x81, x82, x83, x84, x85, x86, x87, x88, x89, x90, x91, x92, x93, x94, x95, x96, x97, x98, x99, x100, x101, x102, x103, x104, x105, x106, x107, x108, x109, x110, x111, x112, x113, x114, x115, x116, x117, x118, x119, x120, x121, x122, x123], []⟩ W := by
  conv => arg 2; whnf
  have HN : Hid (∀ (y20 y21 y22 y23 : Value), i < l → Q .normal ⟨#[.slice a l c, x1, x2, x3, x4, .int .i64 (i : Int), x6, x7, x8, x9, x10, x11, x12, x13, x14, x15, x16, x17, x18, x19, y20, y21, y22, y23, x24, x25, x26, x27, x28, x29, x30, x31, x32, x33, x34, x35, x36, x37, x38, x39, x40, x41, x42, x43, x44, x45, x46, x47, x48, x49, x50, x51, x52, x53, x54, x55, x56, x57, x58, x59, x60, x61, x62, x63, x64, x65, x66, x67, x68, x69, x70, x71, x72, x73, x74, x75, x76, x77, x78, x79, x80, x81, x82, x83, x84, x85, x86, x87, x88, x89, x90, x91, x92, x93, x94, x95, x96, x97, x98, x99, x100, x101, x102, x103, x104, x105, x106, x107, x108, x109, x110, x111, x112, x113, x114, x115, x116, x117, x118, x119, x120, x121, x122, x123], []⟩ W) := hN
  have HE : Hid (∀ (y20 y21 y22 y23 : Value), i = l → Q (.exit 0) ⟨#[.slice a l c, x1, x2, x3, x4, .int .i64 (i : Int), x6, x7, x8, x9, x10, x11, x12, x13, x14, x15, x16, x17, x18, x19, y20, y21, y22, y23, x24, x25, x26, x27, x28, x29, x30, x31, x32, x33, x34, x35, x36, x37, x38, x39, x40, x41, x42, x43, x44, x45, x46, x47, x48, x49, x50, x51, x52, x53, x54, x55, x56, x57, x58, x59, x60, x61, x62, x63, x64, x65, x66, x67, x68, x69, x70, x71, x72, x73, x74, x75, x76, x77, x78, x79, x80, x81, x82, x83, x84, x85, x86, x87, x88, x89, x90, x91, x92, x93, x94, x95, x96, x97, x98, x99, x100, x101, x102, x103, x104, x105, x106, x107, x108, x109, x110, x111, x112, x113, x114, x115, x116, x117, x118, x119, x120, x121, x122, x123], []⟩ W) := hE
  clear hN hE
  by_cases hlt : i < l
  · have hlti : (i : Int) < (l : Int) := by omega
    clear HE
    go_wp2_with fail
    exact HN.out  _ _ _ _ hlt
  · have hlti : decide (i < l) = false := decide_eq_false hlt
    have HE2 : Hid (i = l) := by show _ = _; omega
    clear HN hi
    go_wp2_with fail
    exact HE.out  _ _ _ _ HE2.out

set_option maxRecDepth 100000 in
set_option maxHeartbeats 12800000 in
theorem me_t17 {x1 x2 x3 x4 x5 x6 x7 x8 x9 x11 x12 x13 x14 x15 x16 x17 x18 x19 x20 x21 x22 x23 x24 x25 x26 x27 x28 x29 x30 x31 x32 x33 x34 x35 x36 x37 x38 x39 x40 x41 x42 x43 x44 x45 x46 x47 x48 x49 x50 x51 x52 x53 x54 x55 x56 x57 x58 x59 x60 x61 x62 x63 x64 x65 x66 x67 x68 x69 x70 x71 x72 x73 x74 x75 x76 x77 x78 x79 x80 x81 x82 x83 x84 x85 x86 x87 x88 x89 x90 x91 x92 x93 x94 x95 x96 x97 x98 x99 x100 x101 x102 x103 x104 x105 x106 x107 x108 x109 x110 x111 x112 x113 x114 x115 x116 x117 x118 x119 x120 x121 x122 x123 : Value} {Q : Exit → Act → World → Prop} {W : World} {a : Option Addr} {l c i : Nat} (hi : i ≤ l)
    (hN : ∀ (y62 y63 y64 y65 : Value), i < l → Q .normal ⟨#[.slice a l c, x1, x2, x3, x4, x5, x6, x7, x8, x9, .int .i64 (i : Int), x11, x12, x13, x14, x15, x16, x17, x18, x19, x20, x21, x22, x23, x24, x25, x26, x27, x28, x29, x30, x31, x32, x33, x34, x35, x36, x37, x38, x39, x40, x41, x42, x43, x44, x45, x46, x47, x48, x49, x50, x51, x52, x53, x54, x55, x56, x57, x58, x59, x60, x61, y62, y63, y64, y65, x66, x67, x68, x69, x70, x71, x72, x73, x74, x75, x76, x77, x78, x79, x80, x81, x82, x83, x84, x85, x86, x87, x88, x89, x90, x91, x92, x93, x94, x95, x96, x97, x98, x99, x100, x101, x102, x103, x104, x105, x106, x107, x108, x109, x110, x111, x112, x113, x114, x115, x116, x117, x118, x119, x120, x121, x122, x123], []⟩ W)
    (hE : ∀ (y62 y63 y64 y65 : Value), i = l → Q (.exit 2) ⟨#[.slice a l c, x1, x2, x3, x4, x5, x6, x7, x8, x9, .int .i64 (i : Int), x11, x12, x13, x14, x15, x16, x17, x18, x19, x20, x21, x22, x23, x24, x25, x26, x27, x28, x29, x30, x31, x32, x33, x34, x35, x36, x37, x38, x39, x40, x41, x42, x43, x44, x45, x46, x47, x48, x49, x50, x51, x52, x53, x54, x55, x56, x57, x58, x59, x60, x61, y62, y63, y64, y65, x66, x67, x68, x69, x70, x71, x72, x73, x74, x75, x76, x77, x78, x79, x80, x81, x82, x83, x84, x85, x86, x87, x88, x89, x90, x91, x92, x93, x94, x95, x96, x97, x98, x99, x100, x101, x102, x103, x104, x105, x106, x107, x108, x109, x110, x111, x112, x113, x114, x115, x116, x117, x118, x119, x120, x121, x122, x123], []⟩ W) :
    Code.wp Try.prog (((Try.f8.body.bind (pcLoop 2)).bind (pcAt 17)).getD .skip) Q ⟨#[.slice a l c, x1, x2, x3, x4, x5, x6, x7, x8, x9, .int .i64 (i : Int), x11, x12, x13, x14, x15, x16, x17, x18, x19, x20, x21, x22, x23, x24, x25, x26, x27, x28, x29, x30, x31, x32, x33, x34, x35, x36, x37, x38, x39, x40, x41, x42, x43, x44, x45, x46, x47, x48, x49, x50, x51, x52, x53, x54, x55, x56, x57, x58, x59, x60, x61, x62, x63, x64, x65, x66, x67, x68, x69, x70, x71, x72, x73, x74, x75, x76, x77, x78, x79, x80, x81, x82, x83, x84, x85, x86, x87, x88, x89, x90, x91, x92, x93, x94, x95, x96, x97, x98, x99, x100, x101, x102, x103, x104, x105, x106, x107, x108, x109, x110, x111, x112, x113, x114, x115, x116, x117, x118, x119, x120, x121, x122, x123], []⟩ W := by
  conv => arg 2; whnf
  have HN : Hid (∀ (y62 y63 y64 y65 : Value), i < l → Q .normal ⟨#[.slice a l c, x1, x2, x3, x4, x5, x6, x7, x8, x9, .int .i64 (i : Int), x11, x12, x13, x14, x15, x16, x17, x18, x19, x20, x21, x22, x23, x24, x25, x26, x27, x28, x29, x30, x31, x32, x33, x34, x35, x36, x37, x38, x39, x40, x41, x42, x43, x44, x45, x46, x47, x48, x49, x50, x51, x52, x53, x54, x55, x56, x57, x58, x59, x60, x61, y62, y63, y64, y65, x66, x67, x68, x69, x70, x71, x72, x73, x74, x75, x76, x77, x78, x79, x80, x81, x82, x83, x84, x85, x86, x87, x88, x89, x90, x91, x92, x93, x94, x95, x96, x97, x98, x99, x100, x101, x102, x103, x104, x105, x106, x107, x108, x109, x110, x111, x112, x113, x114, x115, x116, x117, x118, x119, x120, x121, x122, x123], []⟩ W) := hN
  have HE : Hid (∀ (y62 y63 y64 y65 : Value), i = l → Q (.exit 2) ⟨#[.slice a l c, x1, x2, x3, x4, x5, x6, x7, x8, x9, .int .i64 (i : Int), x11, x12, x13, x14, x15, x16, x17, x18, x19, x20, x21, x22, x23, x24, x25, x26, x27, x28, x29, x30, x31, x32, x33, x34, x35, x36, x37, x38, x39, x40, x41, x42, x43, x44, x45, x46, x47, x48, x49, x50, x51, x52, x53, x54, x55, x56, x57, x58, x59, x60, x61, y62, y63, y64, y65, x66, x67, x68, x69, x70, x71, x72, x73, x74, x75, x76, x77, x78, x79, x80, x81, x82, x83, x84, x85, x86, x87, x88, x89, x90, x91, x92, x93, x94, x95, x96, x97, x98, x99, x100, x101, x102, x103, x104, x105, x106, x107, x108, x109, x110, x111, x112, x113, x114, x115, x116, x117, x118, x119, x120, x121, x122, x123], []⟩ W) := hE
  clear hN hE
  by_cases hlt : i < l
  · have hlti : (i : Int) < (l : Int) := by omega
    clear HE
    go_wp2_with fail
    exact HN.out  _ _ _ _ hlt
  · have hlti : decide (i < l) = false := decide_eq_false hlt
    have HE2 : Hid (i = l) := by show _ = _; omega
    clear HN hi
    go_wp2_with fail
    exact HE.out  _ _ _ _ HE2.out

set_option maxRecDepth 100000 in
set_option maxHeartbeats 12800000 in
theorem me_p5 {x0 x1 x2 x3 x4 x6 x7 x8 x9 x10 x11 x12 x13 x14 x15 x16 x17 x18 x19 x20 x21 x22 x23 x24 x25 x26 x27 x28 x29 x30 x31 x32 x33 x34 x35 x36 x37 x38 x39 x40 x41 x42 x43 x44 x45 x46 x47 x48 x49 x50 x51 x52 x53 x54 x55 x56 x57 x58 x59 x60 x61 x62 x63 x64 x65 x66 x67 x68 x69 x70 x71 x72 x73 x74 x75 x76 x77 x78 x79 x80 x81 x82 x83 x84 x85 x86 x87 x88 x89 x90 x91 x92 x93 x94 x95 x96 x97 x98 x99 x100 x101 x102 x103 x104 x105 x106 x107 x108 x109 x110 x111 x112 x113 x114 x115 x116 x117 x118 x119 x120 x121 x122 x123 : Value} {Q : Exit → Act → World → Prop} {W : World} {i : Nat} (h : i < 9223372036854775807)
    (hN : ∀ (y24 y25 : Value), Q .normal ⟨#[x0, x1, x2, x3, x4, .int .i64 ((i + 1 : Nat) : Int), x6, x7, x8, x9, x10, x11, x12, x13, x14, x15, x16, x17, x18, x19, x20, x21, x22, x23, y24, y25, x26, x27, x28, x29, x30, x31, x32, x33, x34, x35, x36, x37, x38, x39, x40, x41, x42, x43, x44, x45, x46, x47, x48, x49, x50, x51, x52, x53, x54, x55, x56, x57, x58, x59, x60, x61, x62, x63, x64, x65, x66, x67, x68, x69, x70, x71, x72, x73, x74, x75, x76, x77, x78, x79, x80, x81, x82, x83, x84, x85, x86, x87, x88, x89, x90, x91, x92, x93, x94, x95, x96, x97, x98, x99, x100, x101, x102, x103, x104, x105, x106, x107, x108, x109, x110, x111, x112, x113, x114, x115, x116, x117, x118, x119, x120, x121, x122, x123], []⟩ W) :
    Code.wp Try.prog (((Try.f8.body.bind (pcLoop 0)).bind (pcAt 5)).getD .skip) Q ⟨#[x0, x1, x2, x3, x4, .int .i64 (i : Int), x6, x7, x8, x9, x10, x11, x12, x13, x14, x15, x16, x17, x18, x19, x20, x21, x22, x23, x24, x25, x26, x27, x28, x29, x30, x31, x32, x33, x34, x35, x36, x37, x38, x39, x40, x41, x42, x43, x44, x45, x46, x47, x48, x49, x50, x51, x52, x53, x54, x55, x56, x57, x58, x59, x60, x61, x62, x63, x64, x65, x66, x67, x68, x69, x70, x71, x72, x73, x74, x75, x76, x77, x78, x79, x80, x81, x82, x83, x84, x85, x86, x87, x88, x89, x90, x91, x92, x93, x94, x95, x96, x97, x98, x99, x100, x101, x102, x103, x104, x105, x106, x107, x108, x109, x110, x111, x112, x113, x114, x115, x116, x117, x118, x119, x120, x121, x122, x123], []⟩ W := by
  conv => arg 2; whnf
  have HN : Hid (∀ (y24 y25 : Value), Q .normal ⟨#[x0, x1, x2, x3, x4, .int .i64 ((i + 1 : Nat) : Int), x6, x7, x8, x9, x10, x11, x12, x13, x14, x15, x16, x17, x18, x19, x20, x21, x22, x23, y24, y25, x26, x27, x28, x29, x30, x31, x32, x33, x34, x35, x36, x37, x38, x39, x40, x41, x42, x43, x44, x45, x46, x47, x48, x49, x50, x51, x52, x53, x54, x55, x56, x57, x58, x59, x60, x61, x62, x63, x64, x65, x66, x67, x68, x69, x70, x71, x72, x73, x74, x75, x76, x77, x78, x79, x80, x81, x82, x83, x84, x85, x86, x87, x88, x89, x90, x91, x92, x93, x94, x95, x96, x97, x98, x99, x100, x101, x102, x103, x104, x105, x106, x107, x108, x109, x110, x111, x112, x113, x114, x115, x116, x117, x118, x119, x120, x121, x122, x123], []⟩ W) := hN
  clear hN
  have e : ((i + 1 : Nat) : Int) = (i : Int) + 1 := by omega
  rw [e] at HN
  go_wp2_with fail
  exact HN.out  _ _ 

set_option maxRecDepth 100000 in
set_option maxHeartbeats 12800000 in
theorem me_p18 {x0 x1 x2 x3 x4 x5 x6 x7 x8 x9 x11 x12 x13 x14 x15 x16 x17 x18 x19 x20 x21 x22 x23 x24 x25 x26 x27 x28 x29 x30 x31 x32 x33 x34 x35 x36 x37 x38 x39 x40 x41 x42 x43 x44 x45 x46 x47 x48 x49 x50 x51 x52 x53 x54 x55 x56 x57 x58 x59 x60 x61 x62 x63 x64 x65 x66 x67 x68 x69 x70 x71 x72 x73 x74 x75 x76 x77 x78 x79 x80 x81 x82 x83 x84 x85 x86 x87 x88 x89 x90 x91 x92 x93 x94 x95 x96 x97 x98 x99 x100 x101 x102 x103 x104 x105 x106 x107 x108 x109 x110 x111 x112 x113 x114 x115 x116 x117 x118 x119 x120 x121 x122 x123 : Value} {Q : Exit → Act → World → Prop} {W : World} {i : Nat} (h : i < 9223372036854775807)
    (hN : ∀ (y66 y67 : Value), Q .normal ⟨#[x0, x1, x2, x3, x4, x5, x6, x7, x8, x9, .int .i64 ((i + 1 : Nat) : Int), x11, x12, x13, x14, x15, x16, x17, x18, x19, x20, x21, x22, x23, x24, x25, x26, x27, x28, x29, x30, x31, x32, x33, x34, x35, x36, x37, x38, x39, x40, x41, x42, x43, x44, x45, x46, x47, x48, x49, x50, x51, x52, x53, x54, x55, x56, x57, x58, x59, x60, x61, x62, x63, x64, x65, y66, y67, x68, x69, x70, x71, x72, x73, x74, x75, x76, x77, x78, x79, x80, x81, x82, x83, x84, x85, x86, x87, x88, x89, x90, x91, x92, x93, x94, x95, x96, x97, x98, x99, x100, x101, x102, x103, x104, x105, x106, x107, x108, x109, x110, x111, x112, x113, x114, x115, x116, x117, x118, x119, x120, x121, x122, x123], []⟩ W) :
    Code.wp Try.prog (((Try.f8.body.bind (pcLoop 2)).bind (pcAt 18)).getD .skip) Q ⟨#[x0, x1, x2, x3, x4, x5, x6, x7, x8, x9, .int .i64 (i : Int), x11, x12, x13, x14, x15, x16, x17, x18, x19, x20, x21, x22, x23, x24, x25, x26, x27, x28, x29, x30, x31, x32, x33, x34, x35, x36, x37, x38, x39, x40, x41, x42, x43, x44, x45, x46, x47, x48, x49, x50, x51, x52, x53, x54, x55, x56, x57, x58, x59, x60, x61, x62, x63, x64, x65, x66, x67, x68, x69, x70, x71, x72, x73, x74, x75, x76, x77, x78, x79, x80, x81, x82, x83, x84, x85, x86, x87, x88, x89, x90, x91, x92, x93, x94, x95, x96, x97, x98, x99, x100, x101, x102, x103, x104, x105, x106, x107, x108, x109, x110, x111, x112, x113, x114, x115, x116, x117, x118, x119, x120, x121, x122, x123], []⟩ W := by
  conv => arg 2; whnf
  have HN : Hid (∀ (y66 y67 : Value), Q .normal ⟨#[x0, x1, x2, x3, x4, x5, x6, x7, x8, x9, .int .i64 ((i + 1 : Nat) : Int), x11, x12, x13, x14, x15, x16, x17, x18, x19, x20, x21, x22, x23, x24, x25, x26, x27, x28, x29, x30, x31, x32, x33, x34, x35, x36, x37, x38, x39, x40, x41, x42, x43, x44, x45, x46, x47, x48, x49, x50, x51, x52, x53, x54, x55, x56, x57, x58, x59, x60, x61, x62, x63, x64, x65, y66, y67, x68, x69, x70, x71, x72, x73, x74, x75, x76, x77, x78, x79, x80, x81, x82, x83, x84, x85, x86, x87, x88, x89, x90, x91, x92, x93, x94, x95, x96, x97, x98, x99, x100, x101, x102, x103, x104, x105, x106, x107, x108, x109, x110, x111, x112, x113, x114, x115, x116, x117, x118, x119, x120, x121, x122, x123], []⟩ W) := hN
  clear hN
  have e : ((i + 1 : Nat) : Int) = (i : Int) + 1 := by omega
  rw [e] at HN
  go_wp2_with fail
  exact HN.out  _ _ 

set_option maxRecDepth 100000 in
set_option maxHeartbeats 12800000 in
theorem me_p6 {x1 x2 x3 x4 x6 x7 x8 x9 x10 x11 x12 x13 x14 x15 x16 x17 x18 x19 x20 x21 x22 x23 x24 x25 x26 x27 x28 x29 x30 x31 x32 x33 x34 x35 x36 x37 x38 x39 x40 x41 x42 x43 x44 x45 x46 x47 x48 x49 x50 x51 x52 x53 x54 x55 x56 x57 x58 x59 x60 x61 x62 x63 x64 x65 x66 x67 x68 x69 x70 x71 x72 x73 x74 x75 x76 x77 x78 x79 x80 x81 x82 x83 x84 x85 x86 x87 x88 x89 x90 x91 x92 x93 x94 x95 x96 x97 x98 x99 x100 x101 x102 x103 x104 x105 x106 x107 x108 x109 x110 x111 x112 x113 x114 x115 x116 x117 x118 x119 x120 x121 x122 x123 : Value} {Q : Exit → Act → World → Prop} {W : World} {b off l c i : Nat} {v : TV} {t : Tab} (hz : (W.cell? ⟨b, off + i * 3, none⟩ = some (.slice v.p0 v.l0 v.c0) ∧ W.cell? ⟨b, off + i * 3 + 1, none⟩ = some (.slice v.p1 v.l1 v.c1) ∧ W.cell? ⟨b, off + i * 3 + 2, none⟩ = some (.slice v.p2 v.l2 v.c2))) (hi : i < l) (ht : TabAt W v t)
    (hN : ∀ (z : Bool) (wx : World) (y26 y27 y28 y29 y30 : Value), (z = true ↔ TabOk t) → Below W.heap.size W wx → Q .normal ⟨#[.slice (some ⟨b, off, none⟩) l c, x1, x2, x3, x4, .int .i64 (i : Int), .bool z, x7, x8, x9, x10, x11, x12, x13, x14, x15, x16, x17, x18, x19, x20, x21, x22, x23, x24, x25, y26, y27, y28, y29, y30, x31, x32, x33, x34, x35, x36, x37, x38, x39, x40, x41, x42, x43, x44, x45, x46, x47, x48, x49, x50, x51, x52, x53, x54, x55, x56, x57, x58, x59, x60, x61, x62, x63, x64, x65, x66, x67, x68, x69, x70, x71, x72, x73, x74, x75, x76, x77, x78, x79, x80, x81, x82, x83, x84, x85, x86, x87, x88, x89, x90, x91, x92, x93, x94, x95, x96, x97, x98, x99, x100, x101, x102, x103, x104, x105, x106, x107, x108, x109, x110, x111, x112, x113, x114, x115, x116, x117, x118, x119, x120, x121, x122, x123], []⟩ wx) :
    Code.wp Try.prog (((Try.f8.body.bind (pcBlk 1)).bind (pcAt 6)).getD .skip) Q ⟨#[.slice (some ⟨b, off, none⟩) l c, x1, x2, x3, x4, .int .i64 (i : Int), x6, x7, x8, x9, x10, x11, x12, x13, x14, x15, x16, x17, x18, x19, x20, x21, x22, x23, x24, x25, x26, x27, x28, x29, x30, x31, x32, x33, x34, x35, x36, x37, x38, x39, x40, x41, x42, x43, x44, x45, x46, x47, x48, x49, x50, x51, x52, x53, x54, x55, x56, x57, x58, x59, x60, x61, x62, x63, x64, x65, x66, x67, x68, x69, x70, x71, x72, x73, x74, x75, x76, x77, x78, x79, x80, x81, x82, x83, x84, x85, x86, x87, x88, x89, x90, x91, x92, x93, x94, x95, x96, x97, x98, x99, x100, x101, x102, x103, x104, x105, x106, x107, x108, x109, x110, x111, x112, x113, x114, x115, x116, x117, x118, x119, x120, x121, x122, x123], []⟩ W := by
  conv => arg 2; whnf
  have HN : Hid (∀ (z : Bool) (wx : World) (y26 y27 y28 y29 y30 : Value), (z = true ↔ TabOk t) → Below W.heap.size W wx → Q .normal ⟨#[.slice (some ⟨b, off, none⟩) l c, x1, x2, x3, x4, .int .i64 (i : Int), .bool z, x7, x8, x9, x10, x11, x12, x13, x14, x15, x16, x17, x18, x19, x20, x21, x22, x23, x24, x25, y26, y27, y28, y29, y30, x31, x32, x33, x34, x35, x36, x37, x38, x39, x40, x41, x42, x43, x44, x45, x46, x47, x48, x49, x50, x51, x52, x53, x54, x55, x56, x57, x58, x59, x60, x61, x62, x63, x64, x65, x66, x67, x68, x69, x70, x71, x72, x73, x74, x75, x76, x77, x78, x79, x80, x81, x82, x83, x84, x85, x86, x87, x88, x89, x90, x91, x92, x93, x94, x95, x96, x97, x98, x99, x100, x101, x102, x103, x104, x105, x106, x107, x108, x109, x110, x111, x112, x113, x114, x115, x116, x117, x118, x119, x120, x121, x122, x123], []⟩ wx) := hN
  clear hN
  have hi1 : (i : Int) < (l : Int) := by omega
  have hi0 : (0 : Int) ≤ (i : Int) := by omega
  obtain ⟨z0, z1, z2⟩ := hz
  have HC := (show Hid _ from r15right_any v t W ht)
  clear ht
  go_wp2_with fail
  refine Calls.mono HC.out ?_
  rintro e w2 ⟨z, rfl, hb, hbl⟩
  have HB : Hid ((z = true ↔ TabOk t) ∧ Below W.heap.size W w2) := ⟨hb, hbl⟩
  clear hb hbl HC z0 z1 z2
  go_wp2_with fail
  exact HN.out _ _ _ _ _ _ _ HB.out.1 HB.out.2

set_option maxRecDepth 100000 in
set_option maxHeartbeats 12800000 in
theorem me_p7 {x0 x1 x2 x4 x5 x7 x8 x9 x10 x11 x12 x13 x14 x15 x16 x17 x18 x19 x20 x21 x22 x23 x24 x25 x26 x27 x28 x29 x30 x31 x32 x33 x34 x35 x36 x37 x38 x39 x40 x41 x42 x43 x44 x45 x46 x47 x48 x49 x50 x51 x52 x53 x54 x55 x56 x57 x58 x59 x60 x61 x62 x63 x64 x65 x66 x67 x68 x69 x70 x71 x72 x73 x74 x75 x76 x77 x78 x79 x80 x81 x82 x83 x84 x85 x86 x87 x88 x89 x90 x91 x92 x93 x94 x95 x96 x97 x98 x99 x100 x101 x102 x103 x104 x105 x106 x107 x108 x109 x110 x111 x112 x113 x114 x115 x116 x117 x118 x119 x120 x121 x122 x123 : Value} {Q : Exit → Act → World → Prop} {W : World} {z : Bool} 
    (hN : ∀ (y2 y31 y32 y33 : Value), z = true → Q .normal ⟨#[x0, x1, y2, .bool true, x4, x5, .bool z, x7, x8, x9, x10, x11, x12, x13, x14, x15, x16, x17, x18, x19, x20, x21, x22, x23, x24, x25, x26, x27, x28, x29, x30, y31, y32, y33, x34, x35, x36, x37, x38, x39, x40, x41, x42, x43, x44, x45, x46, x47, x48, x49, x50, x51, x52, x53, x54, x55, x56, x57, x58, x59, x60, x61, x62, x63, x64, x65, x66, x67, x68, x69, x70, x71, x72, x73, x74, x75, x76, x77, x78, x79, x80, x81, x82, x83, x84, x85, x86, x87, x88, x89, x90, x91, x92, x93, x94, x95, x96, x97, x98, x99, x100, x101, x102, x103, x104, x105, x106, x107, x108, x109, x110, x111, x112, x113, x114, x115, x116, x117, x118, x119, x120, x121, x122, x123], []⟩ W)
    (hR : ∀ (y31 y32 y33 : Value), Q .ret ⟨#[x0, x1, .bool true, .bool true, x4, x5, .bool z, x7, x8, x9, x10, x11, x12, x13, x14, x15, x16, x17, x18, x19, x20, x21, x22, x23, x24, x25, x26, x27, x28, x29, x30, y31, y32, y33, x34, x35, x36, x37, x38, x39, x40, x41, x42, x43, x44, x45, x46, x47, x48, x49, x50, x51, x52, x53, x54, x55, x56, x57, x58, x59, x60, x61, x62, x63, x64, x65, x66, x67, x68, x69, x70, x71, x72, x73, x74, x75, x76, x77, x78, x79, x80, x81, x82, x83, x84, x85, x86, x87, x88, x89, x90, x91, x92, x93, x94, x95, x96, x97, x98, x99, x100, x101, x102, x103, x104, x105, x106, x107, x108, x109, x110, x111, x112, x113, x114, x115, x116, x117, x118, x119, x120, x121, x122, x123], []⟩ W) :
    Code.wp Try.prog (((Try.f8.body.bind (pcBlk 1)).bind (pcAt 7)).getD .skip) Q ⟨#[x0, x1, x2, .bool true, x4, x5, .bool z, x7, x8, x9, x10, x11, x12, x13, x14, x15, x16, x17, x18, x19, x20, x21, x22, x23, x24, x25, x26, x27, x28, x29, x30, x31, x32, x33, x34, x35, x36, x37, x38, x39, x40, x41, x42, x43, x44, x45, x46, x47, x48, x49, x50, x51, x52, x53, x54, x55, x56, x57, x58, x59, x60, x61, x62, x63, x64, x65, x66, x67, x68, x69, x70, x71, x72, x73, x74, x75, x76, x77, x78, x79, x80, x81, x82, x83, x84, x85, x86, x87, x88, x89, x90, x91, x92, x93, x94, x95, x96, x97, x98, x99, x100, x101, x102, x103, x104, x105, x106, x107, x108, x109, x110, x111, x112, x113, x114, x115, x116, x117, x118, x119, x120, x121, x122, x123], []⟩ W := by
  conv => arg 2; whnf
  have HN : Hid (∀ (y2 y31 y32 y33 : Value), z = true → Q .normal ⟨#[x0, x1, y2, .bool true, x4, x5, .bool z, x7, x8, x9, x10, x11, x12, x13, x14, x15, x16, x17, x18, x19, x20, x21, x22, x23, x24, x25, x26, x27, x28, x29, x30, y31, y32, y33, x34, x35, x36, x37, x38, x39, x40, x41, x42, x43, x44, x45, x46, x47, x48, x49, x50, x51, x52, x53, x54, x55, x56, x57, x58, x59, x60, x61, x62, x63, x64, x65, x66, x67, x68, x69, x70, x71, x72, x73, x74, x75, x76, x77, x78, x79, x80, x81, x82, x83, x84, x85, x86, x87, x88, x89, x90, x91, x92, x93, x94, x95, x96, x97, x98, x99, x100, x101, x102, x103, x104, x105, x106, x107, x108, x109, x110, x111, x112, x113, x114, x115, x116, x117, x118, x119, x120, x121, x122, x123], []⟩ W) := hN
  have HR : Hid (∀ (y31 y32 y33 : Value), Q .ret ⟨#[x0, x1, .bool true, .bool true, x4, x5, .bool z, x7, x8, x9, x10, x11, x12, x13, x14, x15, x16, x17, x18, x19, x20, x21, x22, x23, x24, x25, x26, x27, x28, x29, x30, y31, y32, y33, x34, x35, x36, x37, x38, x39, x40, x41, x42, x43, x44, x45, x46, x47, x48, x49, x50, x51, x52, x53, x54, x55, x56, x57, x58, x59, x60, x61, x62, x63, x64, x65, x66, x67, x68, x69, x70, x71, x72, x73, x74, x75, x76, x77, x78, x79, x80, x81, x82, x83, x84, x85, x86, x87, x88, x89, x90, x91, x92, x93, x94, x95, x96, x97, x98, x99, x100, x101, x102, x103, x104, x105, x106, x107, x108, x109, x110, x111, x112, x113, x114, x115, x116, x117, x118, x119, x120, x121, x122, x123], []⟩ W) := hR
  clear hN hR
  cases z with
  | false =>
    clear HN
    go_wp2_with fail
    exact HR.out  _ _ _ 
  | true =>
    clear HR
    go_wp2_with fail
    exact HN.out  _ _ _ _ (by trivial)

set_option maxRecDepth 100000 in
set_option maxHeartbeats 12800000 in
theorem me_p9 {x1 x2 x3 x6 x7 x8 x9 x10 x11 x12 x13 x14 x15 x16 x17 x18 x19 x20 x21 x22 x23 x24 x25 x26 x27 x28 x29 x30 x31 x32 x33 x34 x35 x36 x37 x38 x39 x40 x41 x42 x43 x44 x45 x46 x47 x48 x49 x50 x51 x52 x53 x54 x55 x56 x57 x58 x59 x60 x61 x62 x63 x64 x65 x66 x67 x68 x69 x70 x71 x72 x73 x74 x75 x76 x77 x78 x79 x80 x81 x82 x83 x84 x85 x86 x87 x88 x89 x90 x91 x92 x93 x94 x95 x96 x97 x98 x99 x100 x101 x102 x103 x104 x105 x106 x107 x108 x109 x110 x111 x112 x113 x114 x115 x116 x117 x118 x119 x120 x121 x122 x123 : Value} {Q : Exit → Act → World → Prop} {W : World} {b off l c i base : Nat} {v : TV} {v4 : Value} {xs : List Int} {Ls : List (List Int)} (hz : (W.cell? ⟨b, off + i * 3, none⟩ = some (.slice v.p0 v.l0 v.c0) ∧ W.cell? ⟨b, off + i * 3 + 1, none⟩ = some (.slice v.p1 v.l1 v.c1) ∧ W.cell? ⟨b, off + i * 3 + 2, none⟩ = some (.slice v.p2 v.l2 v.c2))) (hi : i < l) (hx : Lsts W v.p0 v.l0 v.c0 xs) (hO : LHd (fun _ => True) W base v4 Ls) (hl : Ls.length ≤ 2932031007402) (hbase : base ≤ W.heap.size)
    (hN : ∀ (v' : Value) (wx : World) (y34 y35 y36 y37 y38 y39 y40 y41 : Value), LHd (fun _ => True) wx base v' (Ls ++ [xs]) → Below base W wx → Q .normal ⟨#[.slice (some ⟨b, off, none⟩) l c, x1, x2, x3, v', .int .i64 (i : Int), x6, x7, x8, x9, x10, x11, x12, x13, x14, x15, x16, x17, x18, x19, x20, x21, x22, x23, x24, x25, x26, x27, x28, x29, x30, x31, x32, x33, y34, y35, y36, y37, y38, y39, y40, y41, x42, x43, x44, x45, x46, x47, x48, x49, x50, x51, x52, x53, x54, x55, x56, x57, x58, x59, x60, x61, x62, x63, x64, x65, x66, x67, x68, x69, x70, x71, x72, x73, x74, x75, x76, x77, x78, x79, x80, x81, x82, x83, x84, x85, x86, x87, x88, x89, x90, x91, x92, x93, x94, x95, x96, x97, x98, x99, x100, x101, x102, x103, x104, x105, x106, x107, x108, x109, x110, x111, x112, x113, x114, x115, x116, x117, x118, x119, x120, x121, x122, x123], []⟩ wx) :
    Code.wp Try.prog (((Try.f8.body.bind (pcBlk 1)).bind (pcFrom 9)).getD .skip) Q ⟨#[.slice (some ⟨b, off, none⟩) l c, x1, x2, x3, v4, .int .i64 (i : Int), x6, x7, x8, x9, x10, x11, x12, x13, x14, x15, x16, x17, x18, x19, x20, x21, x22, x23, x24, x25, x26, x27, x28, x29, x30, x31, x32, x33, x34, x35, x36, x37, x38, x39, x40, x41, x42, x43, x44, x45, x46, x47, x48, x49, x50, x51, x52, x53, x54, x55, x56, x57, x58, x59, x60, x61, x62, x63, x64, x65, x66, x67, x68, x69, x70, x71, x72, x73, x74, x75, x76, x77, x78, x79, x80, x81, x82, x83, x84, x85, x86, x87, x88, x89, x90, x91, x92, x93, x94, x95, x96, x97, x98, x99, x100, x101, x102, x103, x104, x105, x106, x107, x108, x109, x110, x111, x112, x113, x114, x115, x116, x117, x118, x119, x120, x121, x122, x123], []⟩ W := by
  conv => arg 2; whnf
  have HN : Hid (∀ (v' : Value) (wx : World) (y34 y35 y36 y37 y38 y39 y40 y41 : Value), LHd (fun _ => True) wx base v' (Ls ++ [xs]) → Below base W wx → Q .normal ⟨#[.slice (some ⟨b, off, none⟩) l c, x1, x2, x3, v', .int .i64 (i : Int), x6, x7, x8, x9, x10, x11, x12, x13, x14, x15, x16, x17, x18, x19, x20, x21, x22, x23, x24, x25, x26, x27, x28, x29, x30, x31, x32, x33, y34, y35, y36, y37, y38, y39, y40, y41, x42, x43, x44, x45, x46, x47, x48, x49, x50, x51, x52, x53, x54, x55, x56, x57, x58, x59, x60, x61, x62, x63, x64, x65, x66, x67, x68, x69, x70, x71, x72, x73, x74, x75, x76, x77, x78, x79, x80, x81, x82, x83, x84, x85, x86, x87, x88, x89, x90, x91, x92, x93, x94, x95, x96, x97, x98, x99, x100, x101, x102, x103, x104, x105, x106, x107, x108, x109, x110, x111, x112, x113, x114, x115, x116, x117, x118, x119, x120, x121, x122, x123], []⟩ wx) := hN
  clear hN
  have hi1 : (i : Int) < (l : Int) := by omega
  have hi0 : (0 : Int) ≤ (i : Int) := by omega
  obtain ⟨z0, z1, z2⟩ := hz
  have hlit := balloc W (.cells #[.slice v.p0 v.l0 v.c0] 22)
  have HO : Hid (LHd (fun _ => True) (W.alloc (.cells #[.slice v.p0 v.l0 v.c0] 22)) base v4 Ls) := hO.below hlit
  have HLE : Hid (LE (fun _ => True) (W.alloc (.cells #[.slice v.p0 v.l0 v.c0] 22)) v.p0 v.l0 v.c0 xs) := ⟨hx.below hlit, fun _ _ => trivial⟩
  have HZ : Hid (Ls.length ≤ 2932031007402 ∧ base ≤ (W.alloc (.cells #[.slice v.p0 v.l0 v.c0] 22)).heap.size) := ⟨hl, Nat.le_trans hbase hlit.size⟩
  have HB : Hid (Below base W (W.alloc (.cells #[.slice v.p0 v.l0 v.c0] 22))) := hlit.mono hbase
  have HC1 : Hid ((W.alloc (.cells #[.slice v.p0 v.l0 v.c0] 22)).cell? ⟨W.heap.size, 0, none⟩ = some (.slice v.p0 v.l0 v.c0)) := by show _ = _; simp
  clear hx hO hl hbase hlit
  go_wp2_with (at_builtin; refine wpList_appLHw _ rfl _ _ 23 rfl Try.underlying23 base _ _ rfl HO.out W.heap.size v.p0 v.l0 v.c0 xs rfl HC1.out HLE.out HZ.out.1 HZ.out.2 ?_)
  intro v5 w5 h5 g5
  have HT : Hid (LHd (fun _ => True) w5 base v5 (Ls ++ [xs]) ∧ Below base W w5) := ⟨h5, HB.out.trans (HO.out.low g5 HZ.out.2)⟩
  clear h5 g5 z0 z1 z2
  go_wp2_with fail
  exact HN.out v5 w5 _ _ _ _ _ _ _ _ HT.out.1 HT.out.2

set_option maxRecDepth 100000 in
set_option maxHeartbeats 12800000 in
theorem me_p10 {x1 x2 x4 x5 x6 x7 x8 x9 x10 x11 x12 x13 x14 x15 x16 x17 x18 x19 x20 x21 x22 x23 x24 x25 x26 x27 x28 x29 x30 x31 x32 x33 x34 x35 x36 x37 x38 x39 x40 x41 x42 x43 x44 x45 x46 x47 x48 x49 x50 x51 x52 x53 x54 x55 x56 x57 x58 x59 x60 x61 x62 x63 x64 x65 x66 x67 x68 x69 x70 x71 x72 x73 x74 x75 x76 x77 x78 x79 x80 x81 x82 x83 x84 x85 x86 x87 x88 x89 x90 x91 x92 x93 x94 x95 x96 x97 x98 x99 x100 x101 x102 x103 x104 x105 x106 x107 x108 x109 x110 x111 x112 x113 x114 x115 x116 x117 x118 x119 x120 x121 x122 x123 : Value} {Q : Exit → Act → World → Prop} {W : World} {a : Option Addr} {l c : Nat} 
    (hN : ∀ (y2 y42 y43 y44 y45 y46 y47 y48 y49 y50 y51 y52 y53 y54 : Value), FewL l → Q .normal ⟨#[.slice a l c, x1, y2, .bool true, x4, x5, x6, x7, x8, x9, x10, x11, x12, x13, x14, x15, x16, x17, x18, x19, x20, x21, x22, x23, x24, x25, x26, x27, x28, x29, x30, x31, x32, x33, x34, x35, x36, x37, x38, x39, x40, x41, y42, y43, y44, y45, y46, y47, y48, y49, y50, y51, y52, y53, y54, x55, x56, x57, x58, x59, x60, x61, x62, x63, x64, x65, x66, x67, x68, x69, x70, x71, x72, x73, x74, x75, x76, x77, x78, x79, x80, x81, x82, x83, x84, x85, x86, x87, x88, x89, x90, x91, x92, x93, x94, x95, x96, x97, x98, x99, x100, x101, x102, x103, x104, x105, x106, x107, x108, x109, x110, x111, x112, x113, x114, x115, x116, x117, x118, x119, x120, x121, x122, x123], []⟩ W)
    (hR : ∀ (y42 y43 y44 y45 y46 y47 y48 y49 y50 y51 y52 y53 y54 : Value), Q .ret ⟨#[.slice a l c, x1, .bool true, .bool true, x4, x5, x6, x7, x8, x9, x10, x11, x12, x13, x14, x15, x16, x17, x18, x19, x20, x21, x22, x23, x24, x25, x26, x27, x28, x29, x30, x31, x32, x33, x34, x35, x36, x37, x38, x39, x40, x41, y42, y43, y44, y45, y46, y47, y48, y49, y50, y51, y52, y53, y54, x55, x56, x57, x58, x59, x60, x61, x62, x63, x64, x65, x66, x67, x68, x69, x70, x71, x72, x73, x74, x75, x76, x77, x78, x79, x80, x81, x82, x83, x84, x85, x86, x87, x88, x89, x90, x91, x92, x93, x94, x95, x96, x97, x98, x99, x100, x101, x102, x103, x104, x105, x106, x107, x108, x109, x110, x111, x112, x113, x114, x115, x116, x117, x118, x119, x120, x121, x122, x123], []⟩ W) :
    Code.wp Try.prog ((Try.f8.body.bind (pcAt 10)).getD .skip) Q ⟨#[.slice a l c, x1, x2, .bool true, x4, x5, x6, x7, x8, x9, x10, x11, x12, x13, x14, x15, x16, x17, x18, x19, x20, x21, x22, x23, x24, x25, x26, x27, x28, x29, x30, x31, x32, x33, x34, x35, x36, x37, x38, x39, x40, x41, x42, x43, x44, x45, x46, x47, x48, x49, x50, x51, x52, x53, x54, x55, x56, x57, x58, x59, x60, x61, x62, x63, x64, x65, x66, x67, x68, x69, x70, x71, x72, x73, x74, x75, x76, x77, x78, x79, x80, x81, x82, x83, x84, x85, x86, x87, x88, x89, x90, x91, x92, x93, x94, x95, x96, x97, x98, x99, x100, x101, x102, x103, x104, x105, x106, x107, x108, x109, x110, x111, x112, x113, x114, x115, x116, x117, x118, x119, x120, x121, x122, x123], []⟩ W := by
  conv => arg 2; whnf
  have HN : Hid (∀ (y2 y42 y43 y44 y45 y46 y47 y48 y49 y50 y51 y52 y53 y54 : Value), FewL l → Q .normal ⟨#[.slice a l c, x1, y2, .bool true, x4, x5, x6, x7, x8, x9, x10, x11, x12, x13, x14, x15, x16, x17, x18, x19, x20, x21, x22, x23, x24, x25, x26, x27, x28, x29, x30, x31, x32, x33, x34, x35, x36, x37, x38, x39, x40, x41, y42, y43, y44, y45, y46, y47, y48, y49, y50, y51, y52, y53, y54, x55, x56, x57, x58, x59, x60, x61, x62, x63, x64, x65, x66, x67, x68, x69, x70, x71, x72, x73, x74, x75, x76, x77, x78, x79, x80, x81, x82, x83, x84, x85, x86, x87, x88, x89, x90, x91, x92, x93, x94, x95, x96, x97, x98, x99, x100, x101, x102, x103, x104, x105, x106, x107, x108, x109, x110, x111, x112, x113, x114, x115, x116, x117, x118, x119, x120, x121, x122, x123], []⟩ W) := hN
  have HR : Hid (∀ (y42 y43 y44 y45 y46 y47 y48 y49 y50 y51 y52 y53 y54 : Value), Q .ret ⟨#[.slice a l c, x1, .bool true, .bool true, x4, x5, x6, x7, x8, x9, x10, x11, x12, x13, x14, x15, x16, x17, x18, x19, x20, x21, x22, x23, x24, x25, x26, x27, x28, x29, x30, x31, x32, x33, x34, x35, x36, x37, x38, x39, x40, x41, y42, y43, y44, y45, y46, y47, y48, y49, y50, y51, y52, y53, y54, x55, x56, x57, x58, x59, x60, x61, x62, x63, x64, x65, x66, x67, x68, x69, x70, x71, x72, x73, x74, x75, x76, x77, x78, x79, x80, x81, x82, x83, x84, x85, x86, x87, x88, x89, x90, x91, x92, x93, x94, x95, x96, x97, x98, x99, x100, x101, x102, x103, x104, x105, x106, x107, x108, x109, x110, x111, x112, x113, x114, x115, x116, x117, x118, x119, x120, x121, x122, x123], []⟩ W) := hR
  clear hN hR
  by_cases h1 : l = 0
  · have d1 : ((l : Int) == 0) = true := by simp [h1]
    clear HN
    subst h1
    go_wp2_with fail
    exact HR.out  _ _ _ _ _ _ _ _ _ _ _ _ _ 
  have d1 : ((l : Int) == 0) = false := by simp [h1]
  by_cases h2 : 16 < l
  · have d2 : decide (16 < l) = true := decide_eq_true h2
    have d2i : decide ((16 : Int) < (l : Int)) = true := decide_eq_true (by omega)
    clear HN h1 h2
    go_wp2_with fail
    exact HR.out  _ _ _ _ _ _ _ _ _ _ _ _ _ 
  · have d2 : decide (16 < l) = false := decide_eq_false h2
    have d2i : decide ((16 : Int) < (l : Int)) = false := decide_eq_false (by omega)
    have HX : Hid (FewL l) := ⟨h1, by omega⟩
    clear HR h1 h2
    go_wp2_with fail
    exact HN.out  _ _ _ _ _ _ _ _ _ _ _ _ _ _ HX.out

set_option maxRecDepth 100000 in
set_option maxHeartbeats 12800000 in
theorem me_p12 {x0 x1 x2 x3 x5 x6 x7 x8 x9 x10 x11 x12 x13 x14 x15 x16 x17 x18 x19 x20 x21 x22 x23 x24 x25 x26 x27 x28 x29 x30 x31 x32 x33 x34 x35 x36 x37 x38 x39 x40 x41 x42 x43 x44 x45 x46 x47 x48 x49 x50 x51 x52 x53 x54 x55 x56 x57 x58 x59 x60 x61 x62 x63 x64 x65 x66 x67 x68 x69 x70 x71 x72 x73 x74 x75 x76 x77 x78 x79 x80 x81 x82 x83 x84 x85 x86 x87 x88 x89 x90 x91 x92 x93 x94 x95 x96 x97 x98 x99 x100 x101 x102 x103 x104 x105 x106 x107 x108 x109 x110 x111 x112 x113 x114 x115 x116 x117 x118 x119 x120 x121 x122 x123 : Value} {Q : Exit → Act → World → Prop} {W : World} {q : Option Addr} {n k : Nat} {Ls : List (List Int)} (OA : AliOk15) (hI : IRows W q n k Ls) (hf : FewL Ls.length) (hall : IdsAll Ls)
    (hN : ∀ (a : Option Addr) (l c : Nat) (xs : List Int) (wx : World) (y55 y56 y57 y58 y59 : Value), Lsts wx a l c xs → IsAlign Ls xs → Below W.heap.size W wx → Q .normal ⟨#[x0, x1, x2, x3, .slice q n k, x5, x6, .slice a l c, .int .i64 0, x9, x10, x11, x12, x13, x14, x15, x16, x17, x18, x19, x20, x21, x22, x23, x24, x25, x26, x27, x28, x29, x30, x31, x32, x33, x34, x35, x36, x37, x38, x39, x40, x41, x42, x43, x44, x45, x46, x47, x48, x49, x50, x51, x52, x53, x54, y55, y56, y57, y58, y59, x60, x61, x62, x63, x64, x65, x66, x67, x68, x69, x70, x71, x72, x73, x74, x75, x76, x77, x78, x79, x80, x81, x82, x83, x84, x85, x86, x87, x88, x89, x90, x91, x92, x93, x94, x95, x96, x97, x98, x99, x100, x101, x102, x103, x104, x105, x106, x107, x108, x109, x110, x111, x112, x113, x114, x115, x116, x117, x118, x119, x120, x121, x122, x123], []⟩ wx) :
    Code.wp Try.prog ((Try.f8.body.bind (pcAt 12)).getD .skip) Q ⟨#[x0, x1, x2, x3, .slice q n k, x5, x6, x7, x8, x9, x10, x11, x12, x13, x14, x15, x16, x17, x18, x19, x20, x21, x22, x23, x24, x25, x26, x27, x28, x29, x30, x31, x32, x33, x34, x35, x36, x37, x38, x39, x40, x41, x42, x43, x44, x45, x46, x47, x48, x49, x50, x51, x52, x53, x54, x55, x56, x57, x58, x59, x60, x61, x62, x63, x64, x65, x66, x67, x68, x69, x70, x71, x72, x73, x74, x75, x76, x77, x78, x79, x80, x81, x82, x83, x84, x85, x86, x87, x88, x89, x90, x91, x92, x93, x94, x95, x96, x97, x98, x99, x100, x101, x102, x103, x104, x105, x106, x107, x108, x109, x110, x111, x112, x113, x114, x115, x116, x117, x118, x119, x120, x121, x122, x123], []⟩ W := by
  conv => arg 2; whnf
  have HN : Hid (∀ (a : Option Addr) (l c : Nat) (xs : List Int) (wx : World) (y55 y56 y57 y58 y59 : Value), Lsts wx a l c xs → IsAlign Ls xs → Below W.heap.size W wx → Q .normal ⟨#[x0, x1, x2, x3, .slice q n k, x5, x6, .slice a l c, .int .i64 0, x9, x10, x11, x12, x13, x14, x15, x16, x17, x18, x19, x20, x21, x22, x23, x24, x25, x26, x27, x28, x29, x30, x31, x32, x33, x34, x35, x36, x37, x38, x39, x40, x41, x42, x43, x44, x45, x46, x47, x48, x49, x50, x51, x52, x53, x54, y55, y56, y57, y58, y59, x60, x61, x62, x63, x64, x65, x66, x67, x68, x69, x70, x71, x72, x73, x74, x75, x76, x77, x78, x79, x80, x81, x82, x83, x84, x85, x86, x87, x88, x89, x90, x91, x92, x93, x94, x95, x96, x97, x98, x99, x100, x101, x102, x103, x104, x105, x106, x107, x108, x109, x110, x111, x112, x113, x114, x115, x116, x117, x118, x119, x120, x121, x122, x123], []⟩ wx) := hN
  clear hN
  have HC := (show Hid _ from OA q n k Ls W hI)
  have HA : Hid (FewL Ls.length ∧ IdsAll Ls) := ⟨hf, hall⟩
  clear hI hf hall
  go_wp2_with fail
  refine Calls.mono HC.out ?_
  rintro e wx ⟨a, l, c, xs, err, rfl, hL, -, hr, hb⟩
  obtain ⟨rfl, hal⟩ : err = 0 ∧ IsAlign Ls xs := by
    rcases hr with ⟨h1, -⟩ | ⟨-, h2, -⟩ | ⟨-, -, h3, h4⟩
    · exact absurd HA.out.1 h1
    · exact absurd HA.out.2 h2
    · exact ⟨h3, h4⟩
  have HT : Hid (Lsts wx a l c xs ∧ IsAlign Ls xs ∧ Below W.heap.size W wx) := ⟨hL, hal, hb⟩
  clear HC HA hL hr hb hal
  dsimp only
  go_wp2_with fail
  exact HN.out a l c xs wx _ _ _ _ _ HT.out.1 HT.out.2.1 HT.out.2.2

set_option maxRecDepth 100000 in
set_option maxHeartbeats 12800000 in
theorem me_p13 {x0 x1 x2 x3 x4 x5 x6 x7 x9 x10 x11 x12 x13 x14 x15 x16 x17 x18 x19 x20 x21 x22 x23 x24 x25 x26 x27 x28 x29 x30 x31 x32 x33 x34 x35 x36 x37 x38 x39 x40 x41 x42 x43 x44 x45 x46 x47 x48 x49 x50 x51 x52 x53 x54 x55 x56 x57 x58 x59 x60 x61 x62 x63 x64 x65 x66 x67 x68 x69 x70 x71 x72 x73 x74 x75 x76 x77 x78 x79 x80 x81 x82 x83 x84 x85 x86 x87 x88 x89 x90 x91 x92 x93 x94 x95 x96 x97 x98 x99 x100 x101 x102 x103 x104 x105 x106 x107 x108 x109 x110 x111 x112 x113 x114 x115 x116 x117 x118 x119 x120 x121 x122 x123 : Value} {Q : Exit → Act → World → Prop} {W : World} 
    (hN : ∀ (y2 y60 y61 : Value), Q .normal ⟨#[x0, x1, y2, x3, x4, x5, x6, x7, .int .i64 0, x9, x10, x11, x12, x13, x14, x15, x16, x17, x18, x19, x20, x21, x22, x23, x24, x25, x26, x27, x28, x29, x30, x31, x32, x33, x34, x35, x36, x37, x38, x39, x40, x41, x42, x43, x44, x45, x46, x47, x48, x49, x50, x51, x52, x53, x54, x55, x56, x57, x58, x59, y60, y61, x62, x63, x64, x65, x66, x67, x68, x69, x70, x71, x72, x73, x74, x75, x76, x77, x78, x79, x80, x81, x82, x83, x84, x85, x86, x87, x88, x89, x90, x91, x92, x93, x94, x95, x96, x97, x98, x99, x100, x101, x102, x103, x104, x105, x106, x107, x108, x109, x110, x111, x112, x113, x114, x115, x116, x117, x118, x119, x120, x121, x122, x123], []⟩ W) :
    Code.wp Try.prog ((Try.f8.body.bind (pcAt 13)).getD .skip) Q ⟨#[x0, x1, x2, x3, x4, x5, x6, x7, .int .i64 0, x9, x10, x11, x12, x13, x14, x15, x16, x17, x18, x19, x20, x21, x22, x23, x24, x25, x26, x27, x28, x29, x30, x31, x32, x33, x34, x35, x36, x37, x38, x39, x40, x41, x42, x43, x44, x45, x46, x47, x48, x49, x50, x51, x52, x53, x54, x55, x56, x57, x58, x59, x60, x61, x62, x63, x64, x65, x66, x67, x68, x69, x70, x71, x72, x73, x74, x75, x76, x77, x78, x79, x80, x81, x82, x83, x84, x85, x86, x87, x88, x89, x90, x91, x92, x93, x94, x95, x96, x97, x98, x99, x100, x101, x102, x103, x104, x105, x106, x107, x108, x109, x110, x111, x112, x113, x114, x115, x116, x117, x118, x119, x120, x121, x122, x123], []⟩ W := by
  conv => arg 2; whnf
  have HN : Hid (∀ (y2 y60 y61 : Value), Q .normal ⟨#[x0, x1, y2, x3, x4, x5, x6, x7, .int .i64 0, x9, x10, x11, x12, x13, x14, x15, x16, x17, x18, x19, x20, x21, x22, x23, x24, x25, x26, x27, x28, x29, x30, x31, x32, x33, x34, x35, x36, x37, x38, x39, x40, x41, x42, x43, x44, x45, x46, x47, x48, x49, x50, x51, x52, x53, x54, x55, x56, x57, x58, x59, y60, y61, x62, x63, x64, x65, x66, x67, x68, x69, x70, x71, x72, x73, x74, x75, x76, x77, x78, x79, x80, x81, x82, x83, x84, x85, x86, x87, x88, x89, x90, x91, x92, x93, x94, x95, x96, x97, x98, x99, x100, x101, x102, x103, x104, x105, x106, x107, x108, x109, x110, x111, x112, x113, x114, x115, x116, x117, x118, x119, x120, x121, x122, x123], []⟩ W) := hN
  clear hN
  go_wp2_with fail
  exact HN.out  _ _ _ 

set_option maxRecDepth 100000 in
set_option maxHeartbeats 12800000 in
theorem me_p15 {x0 x1 x2 x3 x4 x5 x6 x7 x8 x9 x10 x11 x12 x13 x14 x15 x16 x17 x18 x19 x20 x21 x22 x23 x24 x25 x26 x27 x28 x29 x30 x31 x32 x33 x34 x35 x36 x37 x38 x39 x40 x41 x42 x43 x44 x45 x46 x47 x48 x49 x50 x51 x52 x53 x54 x55 x56 x57 x58 x59 x60 x61 x62 x63 x64 x65 x66 x67 x68 x69 x70 x71 x72 x73 x74 x75 x76 x77 x78 x79 x80 x81 x82 x83 x84 x85 x86 x87 x88 x89 x90 x91 x92 x93 x94 x95 x96 x97 x98 x99 x100 x101 x102 x103 x104 x105 x106 x107 x108 x109 x110 x111 x112 x113 x114 x115 x116 x117 x118 x119 x120 x121 x122 x123 : Value} {Q : Exit → Act → World → Prop} {W : World} 
    (hN : Q .normal ⟨#[x0, x1, x2, x3, x4, x5, x6, x7, x8, .slice none 0 0, x10, x11, x12, x13, x14, x15, x16, x17, x18, x19, x20, x21, x22, x23, x24, x25, x26, x27, x28, x29, x30, x31, x32, x33, x34, x35, x36, x37, x38, x39, x40, x41, x42, x43, x44, x45, x46, x47, x48, x49, x50, x51, x52, x53, x54, x55, x56, x57, x58, x59, x60, x61, x62, x63, x64, x65, x66, x67, x68, x69, x70, x71, x72, x73, x74, x75, x76, x77, x78, x79, x80, x81, x82, x83, x84, x85, x86, x87, x88, x89, x90, x91, x92, x93, x94, x95, x96, x97, x98, x99, x100, x101, x102, x103, x104, x105, x106, x107, x108, x109, x110, x111, x112, x113, x114, x115, x116, x117, x118, x119, x120, x121, x122, x123], []⟩ W) :
    Code.wp Try.prog ((Try.f8.body.bind (pcAt 15)).getD .skip) Q ⟨#[x0, x1, x2, x3, x4, x5, x6, x7, x8, x9, x10, x11, x12, x13, x14, x15, x16, x17, x18, x19, x20, x21, x22, x23, x24, x25, x26, x27, x28, x29, x30, x31, x32, x33, x34, x35, x36, x37, x38, x39, x40, x41, x42, x43, x44, x45, x46, x47, x48, x49, x50, x51, x52, x53, x54, x55, x56, x57, x58, x59, x60, x61, x62, x63, x64, x65, x66, x67, x68, x69, x70, x71, x72, x73, x74, x75, x76, x77, x78, x79, x80, x81, x82, x83, x84, x85, x86, x87, x88, x89, x90, x91, x92, x93, x94, x95, x96, x97, x98, x99, x100, x101, x102, x103, x104, x105, x106, x107, x108, x109, x110, x111, x112, x113, x114, x115, x116, x117, x118, x119, x120, x121, x122, x123], []⟩ W := by
  conv => arg 2; whnf
  have HN : Hid (Q .normal ⟨#[x0, x1, x2, x3, x4, x5, x6, x7, x8, .slice none 0 0, x10, x11, x12, x13, x14, x15, x16, x17, x18, x19, x20, x21, x22, x23, x24, x25, x26, x27, x28, x29, x30, x31, x32, x33, x34, x35, x36, x37, x38, x39, x40, x41, x42, x43, x44, x45, x46, x47, x48, x49, x50, x51, x52, x53, x54, x55, x56, x57, x58, x59, x60, x61, x62, x63, x64, x65, x66, x67, x68, x69, x70, x71, x72, x73, x74, x75, x76, x77, x78, x79, x80, x81, x82, x83, x84, x85, x86, x87, x88, x89, x90, x91, x92, x93, x94, x95, x96, x97, x98, x99, x100, x101, x102, x103, x104, x105, x106, x107, x108, x109, x110, x111, x112, x113, x114, x115, x116, x117, x118, x119, x120, x121, x122, x123], []⟩ W) := hN
  clear hN
  go_wp2_with fail
  exact HN.out   

end Go.Proofs.Ytaiikhbfnfcalaa

namespace Go.Proofs.Ytaiikhbfnfcalaa
open Go.RowKit

theorem put3_below15 {w0 w : World} {R : Nat} (hb : Below w0.heap.size w0 w) (hR : w0.heap.size ≤ R) (x y z : Value) : Below w0.heap.size w0 (((w.setCell ⟨R, 0, none⟩ x).setCell ⟨R, 1, none⟩ y).setCell ⟨R, 2, none⟩ z) := ((hb.setCell (p := ⟨R, 0, none⟩) hR _).setCell (p := ⟨R, 1, none⟩) hR _).setCell (p := ⟨R, 2, none⟩) hR _
/-- A table's variable is written: another table stays that has nothing in it. -/
theorem tabput15 {w : World} {R : Nat} {u : TV} {t : Tab} (hu : TabAt w u t) (x y z : Value) (hs : Sep15 R w u) : TabAt (((w.setCell ⟨R, 0, none⟩ x).setCell ⟨R, 1, none⟩ y).setCell ⟨R, 2, none⟩ z) u t :=
  (tabAt_kept15 hu (World.grownBy.trans (World.grownBy.trans (grown_set w R 0 x) (grown_set _ R 1 y)) (grown_set _ R 2 z)) (fun b e => by cases e; exact hs)).1

set_option maxRecDepth 100000 in
set_option maxHeartbeats 12800000 in
theorem me_p19 {x1 x2 x3 x4 x5 x6 x8 x9 x11 x12 x13 x14 x15 x16 x17 x18 x19 x20 x21 x22 x23 x24 x25 x26 x27 x28 x29 x30 x31 x32 x33 x34 x35 x36 x37 x38 x39 x40 x41 x42 x43 x44 x45 x46 x47 x48 x49 x50 x51 x52 x53 x54 x55 x56 x57 x58 x59 x60 x61 x62 x63 x64 x65 x66 x67 x68 x69 x70 x71 x72 x73 x74 x75 x76 x77 x78 x79 x80 x81 x82 x83 x84 x85 x86 x87 x88 x89 x90 x91 x92 x93 x94 x95 x96 x97 x98 x99 x100 x101 x102 x103 x104 x105 x106 x107 x108 x109 x110 x111 x112 x113 x114 x115 x116 x117 x118 x119 x120 x121 x122 x123 : Value} {Q : Exit → Act → World → Prop} {W : World} {b off l c i n k : Nat} {r : Option Addr} {v : TV} {t : Tab} {xs : List Int} (OT : TakOk15) (hz : (W.cell? ⟨b, off + i * 3, none⟩ = some (.slice v.p0 v.l0 v.c0) ∧ W.cell? ⟨b, off + i * 3 + 1, none⟩ = some (.slice v.p1 v.l1 v.c1) ∧ W.cell? ⟨b, off + i * 3 + 2, none⟩ = some (.slice v.p2 v.l2 v.c2))) (hi : i < l) (ht : TabAt W v t) (hx : Lsts W r n k xs) (hok : TakeOk t xs)
    (hN : ∀ (u : TV) (wx : World) (y68 y69 y70 y71 y72 y73 y74 y75 y76 : Value), TabF (fun b => W.heap.size ≤ b) wx u (t.take xs) → Below W.heap.size W wx → Q .normal ⟨#[.slice (some ⟨b, off, none⟩) l c, x1, x2, x3, x4, x5, x6, .slice r n k, x8, x9, .int .i64 (i : Int), .pointer (some ⟨wx.heap.size, 0, none⟩), .int .i64 0, x13, x14, x15, x16, x17, x18, x19, x20, x21, x22, x23, x24, x25, x26, x27, x28, x29, x30, x31, x32, x33, x34, x35, x36, x37, x38, x39, x40, x41, x42, x43, x44, x45, x46, x47, x48, x49, x50, x51, x52, x53, x54, x55, x56, x57, x58, x59, x60, x61, x62, x63, x64, x65, x66, x67, y68, y69, y70, y71, y72, y73, y74, y75, y76, x77, x78, x79, x80, x81, x82, x83, x84, x85, x86, x87, x88, x89, x90, x91, x92, x93, x94, x95, x96, x97, x98, x99, x100, x101, x102, x103, x104, x105, x106, x107, x108, x109, x110, x111, x112, x113, x114, x115, x116, x117, x118, x119, x120, x121, x122, x123], []⟩ (wx.alloc (.cells #[.slice u.p0 u.l0 u.c0, .slice u.p1 u.l1 u.c1, .slice u.p2 u.l2 u.c2] 25))) :
    Code.wp Try.prog (((Try.f8.body.bind (pcBlk 3)).bind (pcAt 19)).getD .skip) Q ⟨#[.slice (some ⟨b, off, none⟩) l c, x1, x2, x3, x4, x5, x6, .slice r n k, x8, x9, .int .i64 (i : Int), x11, x12, x13, x14, x15, x16, x17, x18, x19, x20, x21, x22, x23, x24, x25, x26, x27, x28, x29, x30, x31, x32, x33, x34, x35, x36, x37, x38, x39, x40, x41, x42, x43, x44, x45, x46, x47, x48, x49, x50, x51, x52, x53, x54, x55, x56, x57, x58, x59, x60, x61, x62, x63, x64, x65, x66, x67, x68, x69, x70, x71, x72, x73, x74, x75, x76, x77, x78, x79, x80, x81, x82, x83, x84, x85, x86, x87, x88, x89, x90, x91, x92, x93, x94, x95, x96, x97, x98, x99, x100, x101, x102, x103, x104, x105, x106, x107, x108, x109, x110, x111, x112, x113, x114, x115, x116, x117, x118, x119, x120, x121, x122, x123], []⟩ W := by
  conv => arg 2; whnf
  have HN : Hid (∀ (u : TV) (wx : World) (y68 y69 y70 y71 y72 y73 y74 y75 y76 : Value), TabF (fun b => W.heap.size ≤ b) wx u (t.take xs) → Below W.heap.size W wx → Q .normal ⟨#[.slice (some ⟨b, off, none⟩) l c, x1, x2, x3, x4, x5, x6, .slice r n k, x8, x9, .int .i64 (i : Int), .pointer (some ⟨wx.heap.size, 0, none⟩), .int .i64 0, x13, x14, x15, x16, x17, x18, x19, x20, x21, x22, x23, x24, x25, x26, x27, x28, x29, x30, x31, x32, x33, x34, x35, x36, x37, x38, x39, x40, x41, x42, x43, x44, x45, x46, x47, x48, x49, x50, x51, x52, x53, x54, x55, x56, x57, x58, x59, x60, x61, x62, x63, x64, x65, x66, x67, y68, y69, y70, y71, y72, y73, y74, y75, y76, x77, x78, x79, x80, x81, x82, x83, x84, x85, x86, x87, x88, x89, x90, x91, x92, x93, x94, x95, x96, x97, x98, x99, x100, x101, x102, x103, x104, x105, x106, x107, x108, x109, x110, x111, x112, x113, x114, x115, x116, x117, x118, x119, x120, x121, x122, x123], []⟩ (wx.alloc (.cells #[.slice u.p0 u.l0 u.c0, .slice u.p1 u.l1 u.c1, .slice u.p2 u.l2 u.c2] 25))) := hN
  clear hN
  have hi1 : (i : Int) < (l : Int) := by omega
  have hi0 : (0 : Int) ≤ (i : Int) := by omega
  obtain ⟨z0, z1, z2⟩ := hz
  have HC := (show Hid _ from OT v t r n k xs W ht hx)
  have HO : Hid (TakeOk t xs) := hok
  clear ht hx hok
  go_wp2_with fail
  refine Calls.mono HC.out ?_
  rintro e wx ⟨u, t', err, rfl, hT, hr, hb⟩
  obtain ⟨rfl, rfl⟩ : err = 0 ∧ t' = t.take xs := by
    rcases hr with ⟨h1, -⟩ | ⟨-, h2, h3⟩
    · exact absurd HO.out h1
    · exact ⟨h2, h3⟩
  have HT : Hid (TabF (fun b => W.heap.size ≤ b) wx u (t.take xs) ∧ Below W.heap.size W wx) := ⟨hT, hb⟩
  clear HC HO hT hr hb z0 z1 z2
  dsimp only
  go_wp2_with fail
  exact HN.out u wx _ _ _ _ _ _ _ _ _ HT.out.1 HT.out.2

set_option maxRecDepth 100000 in
set_option maxHeartbeats 12800000 in
theorem me_p20 {x1 x2 x3 x4 x5 x6 x7 x8 x9 x11 x12 x13 x14 x15 x16 x17 x18 x19 x20 x21 x22 x23 x24 x25 x26 x27 x28 x29 x30 x31 x32 x33 x34 x35 x36 x37 x38 x39 x40 x41 x42 x43 x44 x45 x46 x47 x48 x49 x50 x51 x52 x53 x54 x55 x56 x57 x58 x59 x60 x61 x62 x63 x64 x65 x66 x67 x68 x69 x70 x71 x72 x73 x74 x75 x76 x77 x78 x79 x80 x81 x82 x83 x84 x85 x86 x87 x88 x89 x90 x91 x92 x93 x94 x95 x96 x97 x98 x99 x100 x101 x102 x103 x104 x105 x106 x107 x108 x109 x110 x111 x112 x113 x114 x115 x116 x117 x118 x119 x120 x121 x122 x123 : Value} {Q : Exit → Act → World → Prop} {W : World} {b off l c i : Nat} {v : TV} {t : Tab} (OT : TakOk15) (hz : (W.cell? ⟨b, off + i * 3, none⟩ = some (.slice v.p0 v.l0 v.c0) ∧ W.cell? ⟨b, off + i * 3 + 1, none⟩ = some (.slice v.p1 v.l1 v.c1) ∧ W.cell? ⟨b, off + i * 3 + 2, none⟩ = some (.slice v.p2 v.l2 v.c2))) (hi : i < l) (ht : TabAt W v t) (hok : TabOk t)
    (hN : ∀ (s : Nat) (u : TV) (wx : World) (y77 y78 y79 y80 y81 y82 y83 y84 y85 y86 y87 y88 y89 : Value), TVar wx s u → TabAt wx u t → Below W.heap.size W wx → Q .normal ⟨#[.slice (some ⟨b, off, none⟩) l c, x1, x2, x3, x4, x5, x6, x7, x8, x9, .int .i64 (i : Int), x11, x12, .pointer (some ⟨s, 0, none⟩), .int .i64 0, x15, x16, x17, x18, x19, x20, x21, x22, x23, x24, x25, x26, x27, x28, x29, x30, x31, x32, x33, x34, x35, x36, x37, x38, x39, x40, x41, x42, x43, x44, x45, x46, x47, x48, x49, x50, x51, x52, x53, x54, x55, x56, x57, x58, x59, x60, x61, x62, x63, x64, x65, x66, x67, x68, x69, x70, x71, x72, x73, x74, x75, x76, y77, y78, y79, y80, y81, y82, y83, y84, y85, y86, y87, y88, y89, x90, x91, x92, x93, x94, x95, x96, x97, x98, x99, x100, x101, x102, x103, x104, x105, x106, x107, x108, x109, x110, x111, x112, x113, x114, x115, x116, x117, x118, x119, x120, x121, x122, x123], []⟩ wx) :
    Code.wp Try.prog (((Try.f8.body.bind (pcBlk 3)).bind (pcAt 20)).getD .skip) Q ⟨#[.slice (some ⟨b, off, none⟩) l c, x1, x2, x3, x4, x5, x6, x7, x8, x9, .int .i64 (i : Int), x11, x12, x13, x14, x15, x16, x17, x18, x19, x20, x21, x22, x23, x24, x25, x26, x27, x28, x29, x30, x31, x32, x33, x34, x35, x36, x37, x38, x39, x40, x41, x42, x43, x44, x45, x46, x47, x48, x49, x50, x51, x52, x53, x54, x55, x56, x57, x58, x59, x60, x61, x62, x63, x64, x65, x66, x67, x68, x69, x70, x71, x72, x73, x74, x75, x76, x77, x78, x79, x80, x81, x82, x83, x84, x85, x86, x87, x88, x89, x90, x91, x92, x93, x94, x95, x96, x97, x98, x99, x100, x101, x102, x103, x104, x105, x106, x107, x108, x109, x110, x111, x112, x113, x114, x115, x116, x117, x118, x119, x120, x121, x122, x123], []⟩ W := by
  conv => arg 2; whnf
  have HN : Hid (∀ (s : Nat) (u : TV) (wx : World) (y77 y78 y79 y80 y81 y82 y83 y84 y85 y86 y87 y88 y89 : Value), TVar wx s u → TabAt wx u t → Below W.heap.size W wx → Q .normal ⟨#[.slice (some ⟨b, off, none⟩) l c, x1, x2, x3, x4, x5, x6, x7, x8, x9, .int .i64 (i : Int), x11, x12, .pointer (some ⟨s, 0, none⟩), .int .i64 0, x15, x16, x17, x18, x19, x20, x21, x22, x23, x24, x25, x26, x27, x28, x29, x30, x31, x32, x33, x34, x35, x36, x37, x38, x39, x40, x41, x42, x43, x44, x45, x46, x47, x48, x49, x50, x51, x52, x53, x54, x55, x56, x57, x58, x59, x60, x61, x62, x63, x64, x65, x66, x67, x68, x69, x70, x71, x72, x73, x74, x75, x76, y77, y78, y79, y80, y81, y82, y83, y84, y85, y86, y87, y88, y89, x90, x91, x92, x93, x94, x95, x96, x97, x98, x99, x100, x101, x102, x103, x104, x105, x106, x107, x108, x109, x110, x111, x112, x113, x114, x115, x116, x117, x118, x119, x120, x121, x122, x123], []⟩ wx) := hN
  clear hN
  have hi1 : (i : Int) < (l : Int) := by omega
  have hi0 : (0 : Int) ≤ (i : Int) := by omega
  have hbl : b < W.heap.size := World.block_lt_of_cell? W _ hz.1
  have n1 : W.heap.size ≠ b := by omega
  have k1 := n1.symm
  have HK : Hid (∀ wx, Below W.heap.size W wx → (wx.cell? ⟨b, off + i * 3, none⟩ = some (.slice v.p0 v.l0 v.c0) ∧ wx.cell? ⟨b, off + i * 3 + 1, none⟩ = some (.slice v.p1 v.l1 v.c1) ∧ wx.cell? ⟨b, off + i * 3 + 2, none⟩ = some (.slice v.p2 v.l2 v.c2))) := fun wx h => ⟨bkeep h hz.1 rfl, bkeep h hz.2.1 rfl, bkeep h hz.2.2 rfl⟩
  obtain ⟨z0, z1, z2⟩ := hz
  have HC : Hid (∀ wx : World, Below W.heap.size W wx → Calls Try.prog 15 #[.agg #[.slice v.p0 v.l0 v.c0, .slice v.p1 v.l1 v.c1, .slice v.p2 v.l2 v.c2], .slice v.p0 v.l0 v.c0] wx fun e w' => ∃ u, e = .returned (.tuple #[.agg #[.slice u.p0 u.l0 u.c0, .slice u.p1 u.l1 u.c1, .slice u.p2 u.l2 u.c2], .int .i64 0]) ∧ (w'.cell? ⟨b, off + i * 3, none⟩ = some (.slice v.p0 v.l0 v.c0) ∧ w'.cell? ⟨b, off + i * 3 + 1, none⟩ = some (.slice v.p1 v.l1 v.c1) ∧ w'.cell? ⟨b, off + i * 3 + 2, none⟩ = some (.slice v.p2 v.l2 v.c2)) ∧ Hid ((TabAt w' u t ∧ ∀ b, b < wx.heap.size → Sep15 b w' u) ∧ Below wx.heap.size wx w' ∧ Below W.heap.size W w')) := fun wx hw => (OT v t v.p0 v.l0 v.c0 t.ids wx (ht.below hw) (ht.below hw).ids).mono fun e w' q => by
    obtain ⟨u, t', err, rfl, hT, hr, hb⟩ := q
    have hb2 := bthen hw hb
    rcases hr with ⟨h1, -⟩ | ⟨-, rfl, rfl⟩
    · exact absurd ⟨hok, hok.ids, fun x hx => hx⟩ h1
    · refine ⟨u, rfl, HK.out _ hb2, ?_, hb, hb2⟩
      have := hT.tab
      rw [Tab.take_self hok] at this
      exact ⟨this, fun b hb' => Sep15.of_new hT hb'⟩
  have HCA : Hid (∀ wx : World, wx.heap[W.heap.size]? = some (.cells #[.slice none 0 0, .slice none 0 0, .slice none 0 0] 25 (0, 0)) → Below W.heap.size W wx → Calls Try.prog 15 #[.agg #[.slice v.p0 v.l0 v.c0, .slice v.p1 v.l1 v.c1, .slice v.p2 v.l2 v.c2], .slice v.p0 v.l0 v.c0] wx fun e w' => ∃ u, e = .returned (.tuple #[.agg #[.slice u.p0 u.l0 u.c0, .slice u.p1 u.l1 u.c1, .slice u.p2 u.l2 u.c2], .int .i64 0]) ∧ (w'.cell? ⟨b, off + i * 3, none⟩ = some (.slice v.p0 v.l0 v.c0) ∧ w'.cell? ⟨b, off + i * 3 + 1, none⟩ = some (.slice v.p1 v.l1 v.c1) ∧ w'.cell? ⟨b, off + i * 3 + 2, none⟩ = some (.slice v.p2 v.l2 v.c2)) ∧ ((w'.cell? ⟨W.heap.size, 0, none⟩ = some (.slice none 0 0) ∧ w'.cell? ⟨W.heap.size, 1, none⟩ = some (.slice none 0 0) ∧ w'.cell? ⟨W.heap.size, 2, none⟩ = some (.slice none 0 0)) ∧ w'.frozen? ⟨W.heap.size, 0, none⟩ = false ∧ w'.frozen? ⟨W.heap.size, 1, none⟩ = false ∧ w'.frozen? ⟨W.heap.size, 2, none⟩ = false) ∧ Hid (TVar w' W.heap.size TV.none ∧ (TabAt w' u t ∧ Sep15 W.heap.size w' u) ∧ Below W.heap.size W w')) := fun wx hh hw => (HC.out wx hw).mono fun e w' q => by
    obtain ⟨u, q0, q1, q2, q3, q4⟩ := q
    have q6 : TVar w' W.heap.size TV.none := (q3.block _ (Array.getElem?_eq_some_iff.1 hh).1).trans hh
    obtain ⟨r0, r1, r2, fz⟩ := q6.cells
    exact ⟨u, q0, q1, ⟨⟨r0, r1, r2⟩, fz 0, fz 1, fz 2⟩, q6, ⟨q2.1, q2.2 _ (Array.getElem?_eq_some_iff.1 hh).1⟩, q4⟩
  clear ht hok hbl OT
  refine wp_pcOnly ?_
  go_wp2_with fail
  go_region_held3 (fun w' => (w'.cell? ⟨b, off + i * 3, none⟩ = some (.slice v.p0 v.l0 v.c0) ∧ w'.cell? ⟨b, off + i * 3 + 1, none⟩ = some (.slice v.p1 v.l1 v.c1) ∧ w'.cell? ⟨b, off + i * 3 + 2, none⟩ = some (.slice v.p2 v.l2 v.c2))) (first | exact HK.out _ (by repeat (first | exact Below.refl _ _ | assumption | exact hB1.out.2.2 | exact put3_below15 hB1.out.2.2 (Nat.le_refl _) _ _ _ | refine bdr12 ?_ | refine bgr12 ?_ _)) | go_keep | with_reducible exact hS1)
    (first
    | (go_at_call 15; (with_reducible refine Calls.mono (HCA.out _ ?_ ?_) ?_); (focus (first | exact heap_alloc_new W _ | exact heap_alloc_new W.drew _ | (simp; done) | fail)); (focus (repeat (first | exact Below.refl _ _ | refine bdr12 ?_ | refine bgr12 ?_ _))); rintro e w1 ⟨u, rfl, hS1, ⟨⟨r0, r1, r2⟩, f0, f1, f2⟩, hB1⟩)
    | (go_at_call 15; with_reducible refine Calls.mono (HC.out _ ?_) ?_; (focus (repeat (first | exact Below.refl _ _ | refine bdr12 ?_ | refine bgr12 ?_ _))); rintro e w1 ⟨u, rfl, hS1, hB1⟩))
  all_goals first
    | exact HN.out W.heap.size u _ _ _ _ _ _ _ _ _ _ _ _ _ _ (put3_var u hB1.out.1) (tabput15 hB1.out.2.1.1 _ _ _ hB1.out.2.1.2) (put3_below15 hB1.out.2.2 (Nat.le_refl _) _ _ _)
    | exact HN.out w1.heap.size u _ _ _ _ _ _ _ _ _ _ _ _ _ _ (TVar.new _ u) (hB1.out.1.1.below (balloc _ _)) (bthen hB1.out.2.2 (balloc _ _))

set_option maxRecDepth 100000 in
set_option maxHeartbeats 12800000 in
theorem me_p21 {x1 x2 x3 x4 x5 x6 x7 x8 x9 x11 x12 x14 x15 x16 x17 x18 x19 x20 x21 x22 x23 x24 x25 x26 x27 x28 x29 x30 x31 x32 x33 x34 x35 x36 x37 x38 x39 x40 x41 x42 x43 x44 x45 x46 x47 x48 x49 x50 x51 x52 x53 x54 x55 x56 x57 x58 x59 x60 x61 x62 x63 x64 x65 x66 x67 x68 x69 x70 x71 x72 x73 x74 x75 x76 x77 x78 x79 x80 x81 x82 x83 x84 x85 x86 x87 x88 x89 x90 x91 x92 x93 x94 x95 x96 x97 x98 x99 x100 x101 x102 x103 x104 x105 x106 x107 x108 x109 x110 x111 x112 x113 x114 x115 x116 x117 x118 x119 x120 x121 x122 x123 : Value} {Q : Exit → Act → World → Prop} {W : World} {b off l c i s : Nat} {v u : TV} {t : Tab} (hz : (W.cell? ⟨b, off + i * 3, none⟩ = some (.slice v.p0 v.l0 v.c0) ∧ W.cell? ⟨b, off + i * 3 + 1, none⟩ = some (.slice v.p1 v.l1 v.c1) ∧ W.cell? ⟨b, off + i * 3 + 2, none⟩ = some (.slice v.p2 v.l2 v.c2))) (hi : i < l) (ht : TabAt W v t) (hs : TVar W s u) (hu : TabAt W u t)
    (hN : ∀ (wx : World) (y90 y91 y92 y93 y94 y95 : Value), Below W.heap.size W wx → Q .normal ⟨#[.slice (some ⟨b, off, none⟩) l c, x1, x2, x3, x4, x5, x6, x7, x8, x9, .int .i64 (i : Int), x11, x12, .pointer (some ⟨s, 0, none⟩), x14, .bool true, x16, x17, x18, x19, x20, x21, x22, x23, x24, x25, x26, x27, x28, x29, x30, x31, x32, x33, x34, x35, x36, x37, x38, x39, x40, x41, x42, x43, x44, x45, x46, x47, x48, x49, x50, x51, x52, x53, x54, x55, x56, x57, x58, x59, x60, x61, x62, x63, x64, x65, x66, x67, x68, x69, x70, x71, x72, x73, x74, x75, x76, x77, x78, x79, x80, x81, x82, x83, x84, x85, x86, x87, x88, x89, y90, y91, y92, y93, y94, y95, x96, x97, x98, x99, x100, x101, x102, x103, x104, x105, x106, x107, x108, x109, x110, x111, x112, x113, x114, x115, x116, x117, x118, x119, x120, x121, x122, x123], []⟩ wx) :
    Code.wp Try.prog (((Try.f8.body.bind (pcBlk 3)).bind (pcAt 21)).getD .skip) Q ⟨#[.slice (some ⟨b, off, none⟩) l c, x1, x2, x3, x4, x5, x6, x7, x8, x9, .int .i64 (i : Int), x11, x12, .pointer (some ⟨s, 0, none⟩), x14, x15, x16, x17, x18, x19, x20, x21, x22, x23, x24, x25, x26, x27, x28, x29, x30, x31, x32, x33, x34, x35, x36, x37, x38, x39, x40, x41, x42, x43, x44, x45, x46, x47, x48, x49, x50, x51, x52, x53, x54, x55, x56, x57, x58, x59, x60, x61, x62, x63, x64, x65, x66, x67, x68, x69, x70, x71, x72, x73, x74, x75, x76, x77, x78, x79, x80, x81, x82, x83, x84, x85, x86, x87, x88, x89, x90, x91, x92, x93, x94, x95, x96, x97, x98, x99, x100, x101, x102, x103, x104, x105, x106, x107, x108, x109, x110, x111, x112, x113, x114, x115, x116, x117, x118, x119, x120, x121, x122, x123], []⟩ W := by
  conv => arg 2; whnf
  have HN : Hid (∀ (wx : World) (y90 y91 y92 y93 y94 y95 : Value), Below W.heap.size W wx → Q .normal ⟨#[.slice (some ⟨b, off, none⟩) l c, x1, x2, x3, x4, x5, x6, x7, x8, x9, .int .i64 (i : Int), x11, x12, .pointer (some ⟨s, 0, none⟩), x14, .bool true, x16, x17, x18, x19, x20, x21, x22, x23, x24, x25, x26, x27, x28, x29, x30, x31, x32, x33, x34, x35, x36, x37, x38, x39, x40, x41, x42, x43, x44, x45, x46, x47, x48, x49, x50, x51, x52, x53, x54, x55, x56, x57, x58, x59, x60, x61, x62, x63, x64, x65, x66, x67, x68, x69, x70, x71, x72, x73, x74, x75, x76, x77, x78, x79, x80, x81, x82, x83, x84, x85, x86, x87, x88, x89, y90, y91, y92, y93, y94, y95, x96, x97, x98, x99, x100, x101, x102, x103, x104, x105, x106, x107, x108, x109, x110, x111, x112, x113, x114, x115, x116, x117, x118, x119, x120, x121, x122, x123], []⟩ wx) := hN
  clear hN
  have hi1 : (i : Int) < (l : Int) := by omega
  have hi0 : (0 : Int) ≤ (i : Int) := by omega
  have HK : Hid (∀ wx, Below W.heap.size W wx → ((wx.cell? ⟨b, off + i * 3, none⟩ = some (.slice v.p0 v.l0 v.c0) ∧ wx.cell? ⟨b, off + i * 3 + 1, none⟩ = some (.slice v.p1 v.l1 v.c1) ∧ wx.cell? ⟨b, off + i * 3 + 2, none⟩ = some (.slice v.p2 v.l2 v.c2)) ∧ (wx.cell? ⟨s, 0, none⟩ = some (.slice u.p0 u.l0 u.c0) ∧ wx.cell? ⟨s, 1, none⟩ = some (.slice u.p1 u.l1 u.c1) ∧ wx.cell? ⟨s, 2, none⟩ = some (.slice u.p2 u.l2 u.c2)))) := fun wx h => ⟨⟨bkeep h hz.1 rfl, bkeep h hz.2.1 rfl, bkeep h hz.2.2 rfl⟩, (hs.below h).cells.1, (hs.below h).cells.2.1, (hs.below h).cells.2.2.1⟩
  have HC : Hid (∀ wx : World, Below W.heap.size W wx → Calls Try.prog 17 #[.agg #[.slice u.p0 u.l0 u.c0, .slice u.p1 u.l1 u.c1, .slice u.p2 u.l2 u.c2], .agg #[.slice v.p0 v.l0 v.c0, .slice v.p1 v.l1 v.c1, .slice v.p2 v.l2 v.c2]] wx fun e w' => e = .returned (.bool true) ∧ ((w'.cell? ⟨b, off + i * 3, none⟩ = some (.slice v.p0 v.l0 v.c0) ∧ w'.cell? ⟨b, off + i * 3 + 1, none⟩ = some (.slice v.p1 v.l1 v.c1) ∧ w'.cell? ⟨b, off + i * 3 + 2, none⟩ = some (.slice v.p2 v.l2 v.c2)) ∧ (w'.cell? ⟨s, 0, none⟩ = some (.slice u.p0 u.l0 u.c0) ∧ w'.cell? ⟨s, 1, none⟩ = some (.slice u.p1 u.l1 u.c1) ∧ w'.cell? ⟨s, 2, none⟩ = some (.slice u.p2 u.l2 u.c2))) ∧ Hid (Below W.heap.size W w')) := fun wx hw => (r15same_any u v t t wx (hu.below hw) (ht.below hw)).mono fun e w' q => by
    obtain ⟨z, q1, q2, q3⟩ := q
    exact ⟨by rw [q1, q2.2 rfl], HK.out _ (bthen hw q3), bthen hw q3⟩
  obtain ⟨z0, z1, z2⟩ := hz
  obtain ⟨s0, s1, s2, -⟩ := hs.cells
  clear ht hs hu
  refine wp_pcOnly ?_
  go_wp2_with fail
  go_region_held3 (fun w' => ((w'.cell? ⟨b, off + i * 3, none⟩ = some (.slice v.p0 v.l0 v.c0) ∧ w'.cell? ⟨b, off + i * 3 + 1, none⟩ = some (.slice v.p1 v.l1 v.c1) ∧ w'.cell? ⟨b, off + i * 3 + 2, none⟩ = some (.slice v.p2 v.l2 v.c2)) ∧ (w'.cell? ⟨s, 0, none⟩ = some (.slice u.p0 u.l0 u.c0) ∧ w'.cell? ⟨s, 1, none⟩ = some (.slice u.p1 u.l1 u.c1) ∧ w'.cell? ⟨s, 2, none⟩ = some (.slice u.p2 u.l2 u.c2)))) (first | exact HK.out _ (by repeat (first | exact Below.refl _ _ | assumption | exact hB1.out | refine bdr12 ?_ | refine bgr12 ?_ _)) | go_keep | with_reducible exact hS1)
    (first
    | (go_at_call 17; with_reducible refine Calls.mono (HC.out _ ?_) ?_; (focus (repeat (first | exact Below.refl _ _ | refine bdr12 ?_ | refine bgr12 ?_ _))); rintro e w1 ⟨rfl, hS1, hB1⟩))
  all_goals
    exact HN.out w1 _ _ _ _ _ _ hB1.out

set_option maxRecDepth 100000 in
set_option maxHeartbeats 12800000 in
theorem me_p22 {x0 x1 x2 x3 x4 x5 x6 x7 x8 x9 x10 x11 x13 x16 x17 x18 x19 x20 x21 x22 x23 x24 x25 x26 x27 x28 x29 x30 x31 x32 x33 x34 x35 x36 x37 x38 x39 x40 x41 x42 x43 x44 x45 x46 x47 x48 x49 x50 x51 x52 x53 x54 x55 x56 x57 x58 x59 x60 x61 x62 x63 x64 x65 x66 x67 x68 x69 x70 x71 x72 x73 x74 x75 x76 x77 x78 x79 x80 x81 x82 x83 x84 x85 x86 x87 x88 x89 x90 x91 x92 x93 x94 x95 x96 x97 x98 x99 x100 x101 x102 x103 x104 x105 x106 x107 x108 x109 x110 x111 x112 x113 x114 x115 x116 x117 x118 x119 x120 x121 x122 x123 : Value} {Q : Exit → Act → World → Prop} {W : World} 
    (hN : ∀ (y2 y96 y97 y98 y99 y100 y101 y102 y103 y104 y105 : Value), Q .normal ⟨#[x0, x1, y2, x3, x4, x5, x6, x7, x8, x9, x10, x11, .int .i64 0, x13, .int .i64 0, .bool true, x16, x17, x18, x19, x20, x21, x22, x23, x24, x25, x26, x27, x28, x29, x30, x31, x32, x33, x34, x35, x36, x37, x38, x39, x40, x41, x42, x43, x44, x45, x46, x47, x48, x49, x50, x51, x52, x53, x54, x55, x56, x57, x58, x59, x60, x61, x62, x63, x64, x65, x66, x67, x68, x69, x70, x71, x72, x73, x74, x75, x76, x77, x78, x79, x80, x81, x82, x83, x84, x85, x86, x87, x88, x89, x90, x91, x92, x93, x94, x95, y96, y97, y98, y99, y100, y101, y102, y103, y104, y105, x106, x107, x108, x109, x110, x111, x112, x113, x114, x115, x116, x117, x118, x119, x120, x121, x122, x123], []⟩ W) :
    Code.wp Try.prog (((Try.f8.body.bind (pcBlk 3)).bind (pcAt 22)).getD .skip) Q ⟨#[x0, x1, x2, x3, x4, x5, x6, x7, x8, x9, x10, x11, .int .i64 0, x13, .int .i64 0, .bool true, x16, x17, x18, x19, x20, x21, x22, x23, x24, x25, x26, x27, x28, x29, x30, x31, x32, x33, x34, x35, x36, x37, x38, x39, x40, x41, x42, x43, x44, x45, x46, x47, x48, x49, x50, x51, x52, x53, x54, x55, x56, x57, x58, x59, x60, x61, x62, x63, x64, x65, x66, x67, x68, x69, x70, x71, x72, x73, x74, x75, x76, x77, x78, x79, x80, x81, x82, x83, x84, x85, x86, x87, x88, x89, x90, x91, x92, x93, x94, x95, x96, x97, x98, x99, x100, x101, x102, x103, x104, x105, x106, x107, x108, x109, x110, x111, x112, x113, x114, x115, x116, x117, x118, x119, x120, x121, x122, x123], []⟩ W := by
  conv => arg 2; whnf
  have HN : Hid (∀ (y2 y96 y97 y98 y99 y100 y101 y102 y103 y104 y105 : Value), Q .normal ⟨#[x0, x1, y2, x3, x4, x5, x6, x7, x8, x9, x10, x11, .int .i64 0, x13, .int .i64 0, .bool true, x16, x17, x18, x19, x20, x21, x22, x23, x24, x25, x26, x27, x28, x29, x30, x31, x32, x33, x34, x35, x36, x37, x38, x39, x40, x41, x42, x43, x44, x45, x46, x47, x48, x49, x50, x51, x52, x53, x54, x55, x56, x57, x58, x59, x60, x61, x62, x63, x64, x65, x66, x67, x68, x69, x70, x71, x72, x73, x74, x75, x76, x77, x78, x79, x80, x81, x82, x83, x84, x85, x86, x87, x88, x89, x90, x91, x92, x93, x94, x95, y96, y97, y98, y99, y100, y101, y102, y103, y104, y105, x106, x107, x108, x109, x110, x111, x112, x113, x114, x115, x116, x117, x118, x119, x120, x121, x122, x123], []⟩ W) := hN
  clear hN
  go_wp2_with fail
  exact HN.out  _ _ _ _ _ _ _ _ _ _ _ 

set_option maxRecDepth 100000 in
set_option maxHeartbeats 12800000 in
theorem me_p24 {x0 x1 x2 x3 x4 x5 x6 x7 x8 x10 x12 x13 x14 x15 x16 x17 x18 x19 x20 x21 x22 x23 x24 x25 x26 x27 x28 x29 x30 x31 x32 x33 x34 x35 x36 x37 x38 x39 x40 x41 x42 x43 x44 x45 x46 x47 x48 x49 x50 x51 x52 x53 x54 x55 x56 x57 x58 x59 x60 x61 x62 x63 x64 x65 x66 x67 x68 x69 x70 x71 x72 x73 x74 x75 x76 x77 x78 x79 x80 x81 x82 x83 x84 x85 x86 x87 x88 x89 x90 x91 x92 x93 x94 x95 x96 x97 x98 x99 x100 x101 x102 x103 x104 x105 x106 x107 x108 x109 x110 x111 x112 x113 x114 x115 x116 x117 x118 x119 x120 x121 x122 x123 : Value} {Q : Exit → Act → World → Prop} {W : World} {s base : Nat} {u : TV} {v9 : Value} {t : Tab} {ts : List Tab} (hs : TVar W s u) (hu : TabAt W u t) (hO : TOwn W base v9 ts) (hsp : ∀ b, v9.ownBlock = some b → Sep15 b W u) (hl : ts.length < 1000000) (hbase : base ≤ W.heap.size)
    (hN : ∀ (v' : Value) (wx : World) (y106 y107 y108 y109 : Value), TOwn wx base v' (ts ++ [t]) → Below base W wx → Q .normal ⟨#[x0, x1, x2, x3, x4, x5, x6, x7, x8, v', x10, .pointer (some ⟨s, 0, none⟩), x12, x13, x14, x15, x16, x17, x18, x19, x20, x21, x22, x23, x24, x25, x26, x27, x28, x29, x30, x31, x32, x33, x34, x35, x36, x37, x38, x39, x40, x41, x42, x43, x44, x45, x46, x47, x48, x49, x50, x51, x52, x53, x54, x55, x56, x57, x58, x59, x60, x61, x62, x63, x64, x65, x66, x67, x68, x69, x70, x71, x72, x73, x74, x75, x76, x77, x78, x79, x80, x81, x82, x83, x84, x85, x86, x87, x88, x89, x90, x91, x92, x93, x94, x95, x96, x97, x98, x99, x100, x101, x102, x103, x104, x105, y106, y107, y108, y109, x110, x111, x112, x113, x114, x115, x116, x117, x118, x119, x120, x121, x122, x123], []⟩ wx) :
    Code.wp Try.prog (((Try.f8.body.bind (pcBlk 3)).bind (pcFrom 24)).getD .skip) Q ⟨#[x0, x1, x2, x3, x4, x5, x6, x7, x8, v9, x10, .pointer (some ⟨s, 0, none⟩), x12, x13, x14, x15, x16, x17, x18, x19, x20, x21, x22, x23, x24, x25, x26, x27, x28, x29, x30, x31, x32, x33, x34, x35, x36, x37, x38, x39, x40, x41, x42, x43, x44, x45, x46, x47, x48, x49, x50, x51, x52, x53, x54, x55, x56, x57, x58, x59, x60, x61, x62, x63, x64, x65, x66, x67, x68, x69, x70, x71, x72, x73, x74, x75, x76, x77, x78, x79, x80, x81, x82, x83, x84, x85, x86, x87, x88, x89, x90, x91, x92, x93, x94, x95, x96, x97, x98, x99, x100, x101, x102, x103, x104, x105, x106, x107, x108, x109, x110, x111, x112, x113, x114, x115, x116, x117, x118, x119, x120, x121, x122, x123], []⟩ W := by
  conv => arg 2; whnf
  have HN : Hid (∀ (v' : Value) (wx : World) (y106 y107 y108 y109 : Value), TOwn wx base v' (ts ++ [t]) → Below base W wx → Q .normal ⟨#[x0, x1, x2, x3, x4, x5, x6, x7, x8, v', x10, .pointer (some ⟨s, 0, none⟩), x12, x13, x14, x15, x16, x17, x18, x19, x20, x21, x22, x23, x24, x25, x26, x27, x28, x29, x30, x31, x32, x33, x34, x35, x36, x37, x38, x39, x40, x41, x42, x43, x44, x45, x46, x47, x48, x49, x50, x51, x52, x53, x54, x55, x56, x57, x58, x59, x60, x61, x62, x63, x64, x65, x66, x67, x68, x69, x70, x71, x72, x73, x74, x75, x76, x77, x78, x79, x80, x81, x82, x83, x84, x85, x86, x87, x88, x89, x90, x91, x92, x93, x94, x95, x96, x97, x98, x99, x100, x101, x102, x103, x104, x105, y106, y107, y108, y109, x110, x111, x112, x113, x114, x115, x116, x117, x118, x119, x120, x121, x122, x123], []⟩ wx) := hN
  clear hN
  obtain ⟨s0, s1, s2, -⟩ := hs.cells
  have hlit := balloc W (.cells #[.slice u.p0 u.l0 u.c0, .slice u.p1 u.l1 u.c1, .slice u.p2 u.l2 u.c2] 25)
  have HO : Hid (TOwn (W.alloc (.cells #[.slice u.p0 u.l0 u.c0, .slice u.p1 u.l1 u.c1, .slice u.p2 u.l2 u.c2] 25)) base v9 ts) := hO.below hlit
  have hk := tabAt_kept15 hu (grown_of_below hlit none) (fun b e => by cases e)
  have HU : Hid (TabAt (W.alloc (.cells #[.slice u.p0 u.l0 u.c0, .slice u.p1 u.l1 u.c1, .slice u.p2 u.l2 u.c2] 25)) u t ∧ ∀ b, v9.ownBlock = some b → Sep15 b (W.alloc (.cells #[.slice u.p0 u.l0 u.c0, .slice u.p1 u.l1 u.c1, .slice u.p2 u.l2 u.c2] 25)) u) := ⟨hk.1, fun b e => hk.2 b (hsp b e)⟩
  have HZ : Hid (ts.length < 1000000 ∧ base ≤ (W.alloc (.cells #[.slice u.p0 u.l0 u.c0, .slice u.p1 u.l1 u.c1, .slice u.p2 u.l2 u.c2] 25)).heap.size) := ⟨hl, Nat.le_trans hbase hlit.size⟩
  have HB : Hid (Below base W (W.alloc (.cells #[.slice u.p0 u.l0 u.c0, .slice u.p1 u.l1 u.c1, .slice u.p2 u.l2 u.c2] 25))) := hlit.mono hbase
  have HC1 : Hid (((W.alloc (.cells #[.slice u.p0 u.l0 u.c0, .slice u.p1 u.l1 u.c1, .slice u.p2 u.l2 u.c2] 25)).cell? ⟨W.heap.size, 0, none⟩ = some (.slice u.p0 u.l0 u.c0) ∧ (W.alloc (.cells #[.slice u.p0 u.l0 u.c0, .slice u.p1 u.l1 u.c1, .slice u.p2 u.l2 u.c2] 25)).cell? ⟨W.heap.size, 1, none⟩ = some (.slice u.p1 u.l1 u.c1) ∧ (W.alloc (.cells #[.slice u.p0 u.l0 u.c0, .slice u.p1 u.l1 u.c1, .slice u.p2 u.l2 u.c2] 25)).cell? ⟨W.heap.size, 2, none⟩ = some (.slice u.p2 u.l2 u.c2))) := ⟨(TVar.new W u).cells.1, (TVar.new W u).cells.2.1, (TVar.new W u).cells.2.2.1⟩
  clear hs hu hO hsp hl hbase hlit hk
  go_wp2_with (at_builtin; refine wpList_appT _ rfl _ _ rfl base _ _ rfl HO.out W.heap.size u t rfl HC1.out.1 HC1.out.2.1 HC1.out.2.2 HU.out.1 HU.out.2 HZ.out.1 HZ.out.2 ?_)
  intro v5 w5 h5 g5
  have HT : Hid (TOwn w5 base v5 (ts ++ [t]) ∧ Below base W w5) := ⟨h5, HB.out.trans (HO.out.low g5 HZ.out.2)⟩
  clear h5 g5 s0 s1 s2
  go_wp2_with fail
  exact HN.out v5 w5 _ _ _ _ HT.out.1 HT.out.2

set_option maxRecDepth 100000 in
set_option maxHeartbeats 12800000 in
theorem me_p25 {x0 x1 x2 x3 x4 x5 x6 x7 x8 x10 x11 x12 x13 x14 x15 x16 x17 x18 x19 x20 x21 x22 x23 x24 x25 x26 x27 x28 x29 x30 x31 x32 x33 x34 x35 x36 x37 x38 x39 x40 x41 x42 x43 x44 x45 x46 x47 x48 x49 x50 x51 x52 x53 x54 x55 x56 x57 x58 x59 x60 x61 x62 x63 x64 x65 x66 x67 x68 x69 x70 x71 x72 x73 x74 x75 x76 x77 x78 x79 x80 x81 x82 x83 x84 x85 x86 x87 x88 x89 x90 x91 x92 x93 x94 x95 x96 x97 x98 x99 x100 x101 x102 x103 x104 x105 x106 x107 x108 x109 x110 x111 x112 x113 x114 x115 x116 x117 x118 x119 x120 x121 x122 x123 : Value} {Q : Exit → Act → World → Prop} {W : World} {a : Option Addr} {l c : Nat} {ts : List Tab} (OJ : JoiOk15) (hT : TRows W a l c ts) (hf : FewL ts.length) (hok : JoinOk ts)
    (hN : ∀ (u : TV) (wx : World) (y110 y111 y112 y113 y114 : Value), TabAt wx u (joinT ts) → Below W.heap.size W wx → Q .normal ⟨#[x0, x1, x2, x3, x4, x5, x6, x7, x8, .slice a l c, x10, x11, x12, x13, x14, x15, .pointer (some ⟨wx.heap.size, 0, none⟩), .int .i64 0, x18, x19, x20, x21, x22, x23, x24, x25, x26, x27, x28, x29, x30, x31, x32, x33, x34, x35, x36, x37, x38, x39, x40, x41, x42, x43, x44, x45, x46, x47, x48, x49, x50, x51, x52, x53, x54, x55, x56, x57, x58, x59, x60, x61, x62, x63, x64, x65, x66, x67, x68, x69, x70, x71, x72, x73, x74, x75, x76, x77, x78, x79, x80, x81, x82, x83, x84, x85, x86, x87, x88, x89, x90, x91, x92, x93, x94, x95, x96, x97, x98, x99, x100, x101, x102, x103, x104, x105, x106, x107, x108, x109, y110, y111, y112, y113, y114, x115, x116, x117, x118, x119, x120, x121, x122, x123], []⟩ (wx.alloc (.cells #[.slice u.p0 u.l0 u.c0, .slice u.p1 u.l1 u.c1, .slice u.p2 u.l2 u.c2] 25))) :
    Code.wp Try.prog ((Try.f8.body.bind (pcAt 25)).getD .skip) Q ⟨#[x0, x1, x2, x3, x4, x5, x6, x7, x8, .slice a l c, x10, x11, x12, x13, x14, x15, x16, x17, x18, x19, x20, x21, x22, x23, x24, x25, x26, x27, x28, x29, x30, x31, x32, x33, x34, x35, x36, x37, x38, x39, x40, x41, x42, x43, x44, x45, x46, x47, x48, x49, x50, x51, x52, x53, x54, x55, x56, x57, x58, x59, x60, x61, x62, x63, x64, x65, x66, x67, x68, x69, x70, x71, x72, x73, x74, x75, x76, x77, x78, x79, x80, x81, x82, x83, x84, x85, x86, x87, x88, x89, x90, x91, x92, x93, x94, x95, x96, x97, x98, x99, x100, x101, x102, x103, x104, x105, x106, x107, x108, x109, x110, x111, x112, x113, x114, x115, x116, x117, x118, x119, x120, x121, x122, x123], []⟩ W := by
  conv => arg 2; whnf
  have HN : Hid (∀ (u : TV) (wx : World) (y110 y111 y112 y113 y114 : Value), TabAt wx u (joinT ts) → Below W.heap.size W wx → Q .normal ⟨#[x0, x1, x2, x3, x4, x5, x6, x7, x8, .slice a l c, x10, x11, x12, x13, x14, x15, .pointer (some ⟨wx.heap.size, 0, none⟩), .int .i64 0, x18, x19, x20, x21, x22, x23, x24, x25, x26, x27, x28, x29, x30, x31, x32, x33, x34, x35, x36, x37, x38, x39, x40, x41, x42, x43, x44, x45, x46, x47, x48, x49, x50, x51, x52, x53, x54, x55, x56, x57, x58, x59, x60, x61, x62, x63, x64, x65, x66, x67, x68, x69, x70, x71, x72, x73, x74, x75, x76, x77, x78, x79, x80, x81, x82, x83, x84, x85, x86, x87, x88, x89, x90, x91, x92, x93, x94, x95, x96, x97, x98, x99, x100, x101, x102, x103, x104, x105, x106, x107, x108, x109, y110, y111, y112, y113, y114, x115, x116, x117, x118, x119, x120, x121, x122, x123], []⟩ (wx.alloc (.cells #[.slice u.p0 u.l0 u.c0, .slice u.p1 u.l1 u.c1, .slice u.p2 u.l2 u.c2] 25))) := hN
  clear hN
  have HC := (show Hid _ from OJ a l c ts W hT)
  have HO : Hid (FewL ts.length ∧ JoinOk ts) := ⟨hf, hok⟩
  clear hT hf hok
  go_wp2_with fail
  refine Calls.mono HC.out ?_
  rintro e wx ⟨u, t', err, rfl, hT, hr, hb⟩
  obtain ⟨rfl, rfl⟩ : err = 0 ∧ t' = joinT ts := by
    rcases hr with ⟨h1, -⟩ | ⟨-, ⟨h1, -⟩ | ⟨-, h2, h3⟩⟩
    · exact absurd HO.out.1 h1
    · exact absurd HO.out.2 h1
    · exact ⟨h2, h3⟩
  have HT : Hid (TabAt wx u (joinT ts) ∧ Below W.heap.size W wx) := ⟨hT, hb⟩
  clear HC HO hT hr hb
  dsimp only
  go_wp2_with fail
  exact HN.out u wx _ _ _ _ _ HT.out.1 HT.out.2

set_option maxRecDepth 100000 in
set_option maxHeartbeats 12800000 in
theorem me_p26 {x0 x1 x2 x3 x4 x5 x6 x8 x9 x10 x11 x12 x13 x14 x15 x17 x18 x19 x20 x21 x22 x23 x24 x25 x26 x27 x28 x29 x30 x31 x32 x33 x34 x35 x36 x37 x38 x39 x40 x41 x42 x43 x44 x45 x46 x47 x48 x49 x50 x51 x52 x53 x54 x55 x56 x57 x58 x59 x60 x61 x62 x63 x64 x65 x66 x67 x68 x69 x70 x71 x72 x73 x74 x75 x76 x77 x78 x79 x80 x81 x82 x83 x84 x85 x86 x87 x88 x89 x90 x91 x92 x93 x94 x95 x96 x97 x98 x99 x100 x101 x102 x103 x104 x105 x106 x107 x108 x109 x110 x111 x112 x113 x114 x115 x116 x117 x118 x119 x120 x121 x122 x123 : Value} {Q : Exit → Act → World → Prop} {W : World} {a : Option Addr} {l c s : Nat} {u : TV} {xs : List Int} (hs : TVar W s u) (h1 : Lsts W u.p0 u.l0 u.c0 xs) (h2 : Lsts W a l c xs)
    (hN : ∀ (wx : World) (y115 y116 y117 y118 : Value), Below W.heap.size W wx → Q .normal ⟨#[x0, x1, x2, x3, x4, x5, x6, .slice a l c, x8, x9, x10, x11, x12, x13, x14, x15, .pointer (some ⟨s, 0, none⟩), x17, .bool true, x19, x20, x21, x22, x23, x24, x25, x26, x27, x28, x29, x30, x31, x32, x33, x34, x35, x36, x37, x38, x39, x40, x41, x42, x43, x44, x45, x46, x47, x48, x49, x50, x51, x52, x53, x54, x55, x56, x57, x58, x59, x60, x61, x62, x63, x64, x65, x66, x67, x68, x69, x70, x71, x72, x73, x74, x75, x76, x77, x78, x79, x80, x81, x82, x83, x84, x85, x86, x87, x88, x89, x90, x91, x92, x93, x94, x95, x96, x97, x98, x99, x100, x101, x102, x103, x104, x105, x106, x107, x108, x109, x110, x111, x112, x113, x114, y115, y116, y117, y118, x119, x120, x121, x122, x123], []⟩ wx) :
    Code.wp Try.prog ((Try.f8.body.bind (pcAt 26)).getD .skip) Q ⟨#[x0, x1, x2, x3, x4, x5, x6, .slice a l c, x8, x9, x10, x11, x12, x13, x14, x15, .pointer (some ⟨s, 0, none⟩), x17, x18, x19, x20, x21, x22, x23, x24, x25, x26, x27, x28, x29, x30, x31, x32, x33, x34, x35, x36, x37, x38, x39, x40, x41, x42, x43, x44, x45, x46, x47, x48, x49, x50, x51, x52, x53, x54, x55, x56, x57, x58, x59, x60, x61, x62, x63, x64, x65, x66, x67, x68, x69, x70, x71, x72, x73, x74, x75, x76, x77, x78, x79, x80, x81, x82, x83, x84, x85, x86, x87, x88, x89, x90, x91, x92, x93, x94, x95, x96, x97, x98, x99, x100, x101, x102, x103, x104, x105, x106, x107, x108, x109, x110, x111, x112, x113, x114, x115, x116, x117, x118, x119, x120, x121, x122, x123], []⟩ W := by
  conv => arg 2; whnf
  have HN : Hid (∀ (wx : World) (y115 y116 y117 y118 : Value), Below W.heap.size W wx → Q .normal ⟨#[x0, x1, x2, x3, x4, x5, x6, .slice a l c, x8, x9, x10, x11, x12, x13, x14, x15, .pointer (some ⟨s, 0, none⟩), x17, .bool true, x19, x20, x21, x22, x23, x24, x25, x26, x27, x28, x29, x30, x31, x32, x33, x34, x35, x36, x37, x38, x39, x40, x41, x42, x43, x44, x45, x46, x47, x48, x49, x50, x51, x52, x53, x54, x55, x56, x57, x58, x59, x60, x61, x62, x63, x64, x65, x66, x67, x68, x69, x70, x71, x72, x73, x74, x75, x76, x77, x78, x79, x80, x81, x82, x83, x84, x85, x86, x87, x88, x89, x90, x91, x92, x93, x94, x95, x96, x97, x98, x99, x100, x101, x102, x103, x104, x105, x106, x107, x108, x109, x110, x111, x112, x113, x114, y115, y116, y117, y118, x119, x120, x121, x122, x123], []⟩ wx) := hN
  clear hN
  obtain ⟨s0, -, -, -⟩ := hs.cells
  have HC : Hid (Calls Try.prog 14 #[.slice u.p0 u.l0 u.c0, .slice a l c] W fun e w' => e = .returned (.bool true) ∧ Below W.heap.size W w') := (r12si_any u.p0 a u.l0 u.c0 l c xs xs W h1 h2).mono fun e w' k => ⟨by rw [k.1]; simp, k.2⟩
  clear hs h1 h2
  go_wp2_with fail
  refine Calls.mono HC.out ?_
  rintro e wx ⟨rfl, h1⟩
  have HT : Hid (Below W.heap.size W wx) := h1
  clear HC h1 s0
  dsimp only
  go_wp2_with fail
  exact HN.out wx _ _ _ _ HT.out

set_option maxRecDepth 100000 in
set_option maxHeartbeats 12800000 in
theorem me_p27 {x0 x1 x2 x3 x4 x5 x6 x7 x8 x9 x10 x11 x12 x13 x14 x15 x16 x19 x20 x21 x22 x23 x24 x25 x26 x27 x28 x29 x30 x31 x32 x33 x34 x35 x36 x37 x38 x39 x40 x41 x42 x43 x44 x45 x46 x47 x48 x49 x50 x51 x52 x53 x54 x55 x56 x57 x58 x59 x60 x61 x62 x63 x64 x65 x66 x67 x68 x69 x70 x71 x72 x73 x74 x75 x76 x77 x78 x79 x80 x81 x82 x83 x84 x85 x86 x87 x88 x89 x90 x91 x92 x93 x94 x95 x96 x97 x98 x99 x100 x101 x102 x103 x104 x105 x106 x107 x108 x109 x110 x111 x112 x113 x114 x115 x116 x117 x118 x119 x120 x121 x122 x123 : Value} {Q : Exit → Act → World → Prop} {W : World} 
    (hR : ∀ (y119 y120 y121 y122 y123 : Value), Q .ret ⟨#[x0, x1, .bool true, x3, x4, x5, x6, x7, x8, x9, x10, x11, x12, x13, x14, x15, x16, .int .i64 0, .bool true, x19, x20, x21, x22, x23, x24, x25, x26, x27, x28, x29, x30, x31, x32, x33, x34, x35, x36, x37, x38, x39, x40, x41, x42, x43, x44, x45, x46, x47, x48, x49, x50, x51, x52, x53, x54, x55, x56, x57, x58, x59, x60, x61, x62, x63, x64, x65, x66, x67, x68, x69, x70, x71, x72, x73, x74, x75, x76, x77, x78, x79, x80, x81, x82, x83, x84, x85, x86, x87, x88, x89, x90, x91, x92, x93, x94, x95, x96, x97, x98, x99, x100, x101, x102, x103, x104, x105, x106, x107, x108, x109, x110, x111, x112, x113, x114, x115, x116, x117, x118, y119, y120, y121, y122, y123], []⟩ W) :
    Code.wp Try.prog ((Try.f8.body.bind (pcFrom 27)).getD .skip) Q ⟨#[x0, x1, x2, x3, x4, x5, x6, x7, x8, x9, x10, x11, x12, x13, x14, x15, x16, .int .i64 0, .bool true, x19, x20, x21, x22, x23, x24, x25, x26, x27, x28, x29, x30, x31, x32, x33, x34, x35, x36, x37, x38, x39, x40, x41, x42, x43, x44, x45, x46, x47, x48, x49, x50, x51, x52, x53, x54, x55, x56, x57, x58, x59, x60, x61, x62, x63, x64, x65, x66, x67, x68, x69, x70, x71, x72, x73, x74, x75, x76, x77, x78, x79, x80, x81, x82, x83, x84, x85, x86, x87, x88, x89, x90, x91, x92, x93, x94, x95, x96, x97, x98, x99, x100, x101, x102, x103, x104, x105, x106, x107, x108, x109, x110, x111, x112, x113, x114, x115, x116, x117, x118, x119, x120, x121, x122, x123], []⟩ W := by
  conv => arg 2; whnf
  have HR : Hid (∀ (y119 y120 y121 y122 y123 : Value), Q .ret ⟨#[x0, x1, .bool true, x3, x4, x5, x6, x7, x8, x9, x10, x11, x12, x13, x14, x15, x16, .int .i64 0, .bool true, x19, x20, x21, x22, x23, x24, x25, x26, x27, x28, x29, x30, x31, x32, x33, x34, x35, x36, x37, x38, x39, x40, x41, x42, x43, x44, x45, x46, x47, x48, x49, x50, x51, x52, x53, x54, x55, x56, x57, x58, x59, x60, x61, x62, x63, x64, x65, x66, x67, x68, x69, x70, x71, x72, x73, x74, x75, x76, x77, x78, x79, x80, x81, x82, x83, x84, x85, x86, x87, x88, x89, x90, x91, x92, x93, x94, x95, x96, x97, x98, x99, x100, x101, x102, x103, x104, x105, x106, x107, x108, x109, x110, x111, x112, x113, x114, x115, x116, x117, x118, y119, y120, y121, y122, y123], []⟩ W) := hR
  clear hR
  go_wp2_with fail
  exact HR.out  _ _ _ _ _ 

end Go.Proofs.Ytaiikhbfnfcalaa

namespace Go.Proofs.Ytaiikhbfnfcalaa
open Go.RowKit

theorem take_snocT {ts : List Tab} {i : Nat} (hi : i < ts.length) : ts.take (i + 1) = ts.take i ++ [ts.getD i Tab.none] := by
  rw [List.take_add_one]
  simp [List.getD, List.getElem?_eq_getElem hi]
theorem nodup_len15 : ∀ {xs ys : List Int}, xs.Nodup → (∀ x, x ∈ xs → x ∈ ys) → xs.length ≤ ys.length
  | [], _, _, _ => Nat.zero_le _
  | x :: xs, ys, h, hs => by
    rw [List.nodup_cons] at h
    have h1 := nodup_len15 (xs := xs) (ys := ys.erase x) h.2 (fun y hy => (List.mem_erase_of_ne (fun e => h.1 (by rw [e] at hy; exact hy))).2 (hs y (List.mem_cons_of_mem _ hy)))
    have h2 := List.length_erase_of_mem (hs x List.mem_cons_self)
    have h3 : 0 < ys.length := List.length_pos_of_mem (hs x List.mem_cons_self)
    rw [List.length_cons]
    omega
theorem getD_mapT {α : Type} (f : Tab → α) (d : α) {ts : List Tab} {i : Nat} (hi : i < ts.length) : (ts.map f).getD i d = f (ts.getD i Tab.none) := by simp [List.getD, List.getElem?_eq_getElem hi]
theorem align_take {ts : List Tab} (h0 : 0 < ts.length) (hok : ∀ j, j < ts.length → TabOk (ts.getD j Tab.none)) {xs : List Int} (hal : IsAlign (ts.map (·.ids)) xs) {i : Nat} (hi : i < ts.length) : TakeOk (ts.getD i Tab.none) xs := by
  have hin : ∀ j, j < ts.length → ∀ x, x ∈ xs → x ∈ (ts.getD j Tab.none).ids := fun j hj x hx => by
    refine (hal.mem x).1 hx _ (List.mem_map.2 ⟨ts.getD j Tab.none, ?_, rfl⟩)
    simp [List.getD, List.getElem?_eq_getElem hj]
  have hids := (hok 0 h0).ids
  have hnd : xs.Nodup := hal.rise.imp fun {a b} h => by intro e; omega
  exact ⟨hok i hi, ⟨Nat.le_trans (nodup_len15 hnd (hin 0 h0)) hids.few, fun x hx => hids.rng x (hin 0 h0 x hx), hnd⟩, hin i hi⟩
theorem ids_allT {ts : List Tab} (hok : ∀ j, j < ts.length → TabOk (ts.getD j Tab.none)) : IdsAll (ts.map (·.ids)) := fun L hL => by
  obtain ⟨t, ht, rfl⟩ := List.mem_map.1 hL
  obtain ⟨j, hj, rfl⟩ := List.getElem_of_mem ht
  have := hok j hj
  simp [List.getD, List.getElem?_eq_getElem hj] at this
  exact this.ids
theorem join_takes {ts : List Tab} {xs : List Int} (h : ∀ i, i < ts.length → TakeOk (ts.getD i Tab.none) xs) : JoinOk (ts.map (·.take xs)) := fun i hi => by
  rw [List.length_map] at hi
  rw [getD_mapT _ _ hi, getD_mapT _ _ (by omega : 0 < ts.length)]
  exact ⟨Tab.take_ok (h i hi), rfl⟩

set_option maxRecDepth 100000 in
set_option maxHeartbeats 12800000 in
theorem me_l1 {x1 x2 x5 x6 x7 x8 x9 x10 x11 x12 x13 x14 x15 x16 x17 x18 x19 x20 x21 x22 x23 x24 x25 x26 x27 x28 x29 x30 x31 x32 x33 x34 x35 x36 x37 x38 x39 x40 x41 x42 x43 x44 x45 x46 x47 x48 x49 x50 x51 x52 x53 x54 x55 x56 x57 x58 x59 x60 x61 x62 x63 x64 x65 x66 x67 x68 x69 x70 x71 x72 x73 x74 x75 x76 x77 x78 x79 x80 x81 x82 x83 x84 x85 x86 x87 x88 x89 x90 x91 x92 x93 x94 x95 x96 x97 x98 x99 x100 x101 x102 x103 x104 x105 x106 x107 x108 x109 x110 x111 x112 x113 x114 x115 x116 x117 x118 x119 x120 x121 x122 x123 : Value} {Q : Exit → Act → World → Prop} {W : World} {a : Option Addr} {l c : Nat} {ts : List Tab} (h : TRows W a l c ts) (hl : l ≤ 1954687338268)
    (hN : ∀ (v' : Value) (wx : World) (y2 y5 y6 y20 y21 y22 y23 y24 y25 y26 y27 y28 y29 y30 y31 y32 y33 y34 y35 y36 y37 y38 y39 y40 y41 : Value), (∀ j, j < l → TabOk (ts.getD j Tab.none)) → LHd (fun _ => True) wx W.heap.size v' (ts.map (·.ids)) → Below W.heap.size W wx → Q .normal ⟨#[.slice a l c, x1, y2, .bool true, v', y5, y6, x7, x8, x9, x10, x11, x12, x13, x14, x15, x16, x17, x18, x19, y20, y21, y22, y23, y24, y25, y26, y27, y28, y29, y30, y31, y32, y33, y34, y35, y36, y37, y38, y39, y40, y41, x42, x43, x44, x45, x46, x47, x48, x49, x50, x51, x52, x53, x54, x55, x56, x57, x58, x59, x60, x61, x62, x63, x64, x65, x66, x67, x68, x69, x70, x71, x72, x73, x74, x75, x76, x77, x78, x79, x80, x81, x82, x83, x84, x85, x86, x87, x88, x89, x90, x91, x92, x93, x94, x95, x96, x97, x98, x99, x100, x101, x102, x103, x104, x105, x106, x107, x108, x109, x110, x111, x112, x113, x114, x115, x116, x117, x118, x119, x120, x121, x122, x123], []⟩ wx)
    (hR : ∀ (wx : World) (y4 y5 y6 y20 y21 y22 y23 y24 y25 y26 y27 y28 y29 y30 y31 y32 y33 y34 y35 y36 y37 y38 y39 y40 y41 : Value), Below W.heap.size W wx → Q .ret ⟨#[.slice a l c, x1, .bool true, .bool true, y4, y5, y6, x7, x8, x9, x10, x11, x12, x13, x14, x15, x16, x17, x18, x19, y20, y21, y22, y23, y24, y25, y26, y27, y28, y29, y30, y31, y32, y33, y34, y35, y36, y37, y38, y39, y40, y41, x42, x43, x44, x45, x46, x47, x48, x49, x50, x51, x52, x53, x54, x55, x56, x57, x58, x59, x60, x61, x62, x63, x64, x65, x66, x67, x68, x69, x70, x71, x72, x73, x74, x75, x76, x77, x78, x79, x80, x81, x82, x83, x84, x85, x86, x87, x88, x89, x90, x91, x92, x93, x94, x95, x96, x97, x98, x99, x100, x101, x102, x103, x104, x105, x106, x107, x108, x109, x110, x111, x112, x113, x114, x115, x116, x117, x118, x119, x120, x121, x122, x123], []⟩ wx) :
    Code.wp Try.prog ((Try.f8.body.bind (pcAt 3)).getD .skip) Q ⟨#[.slice a l c, x1, x2, .bool true, .slice none 0 0, x5, x6, x7, x8, x9, x10, x11, x12, x13, x14, x15, x16, x17, x18, x19, x20, x21, x22, x23, x24, x25, x26, x27, x28, x29, x30, x31, x32, x33, x34, x35, x36, x37, x38, x39, x40, x41, x42, x43, x44, x45, x46, x47, x48, x49, x50, x51, x52, x53, x54, x55, x56, x57, x58, x59, x60, x61, x62, x63, x64, x65, x66, x67, x68, x69, x70, x71, x72, x73, x74, x75, x76, x77, x78, x79, x80, x81, x82, x83, x84, x85, x86, x87, x88, x89, x90, x91, x92, x93, x94, x95, x96, x97, x98, x99, x100, x101, x102, x103, x104, x105, x106, x107, x108, x109, x110, x111, x112, x113, x114, x115, x116, x117, x118, x119, x120, x121, x122, x123], []⟩ W := by
  conv => arg 2; whnf
  have HN : Hid (∀ (v' : Value) (wx : World) (y2 y5 y6 y20 y21 y22 y23 y24 y25 y26 y27 y28 y29 y30 y31 y32 y33 y34 y35 y36 y37 y38 y39 y40 y41 : Value), (∀ j, j < l → TabOk (ts.getD j Tab.none)) → LHd (fun _ => True) wx W.heap.size v' (ts.map (·.ids)) → Below W.heap.size W wx → Q .normal ⟨#[.slice a l c, x1, y2, .bool true, v', y5, y6, x7, x8, x9, x10, x11, x12, x13, x14, x15, x16, x17, x18, x19, y20, y21, y22, y23, y24, y25, y26, y27, y28, y29, y30, y31, y32, y33, y34, y35, y36, y37, y38, y39, y40, y41, x42, x43, x44, x45, x46, x47, x48, x49, x50, x51, x52, x53, x54, x55, x56, x57, x58, x59, x60, x61, x62, x63, x64, x65, x66, x67, x68, x69, x70, x71, x72, x73, x74, x75, x76, x77, x78, x79, x80, x81, x82, x83, x84, x85, x86, x87, x88, x89, x90, x91, x92, x93, x94, x95, x96, x97, x98, x99, x100, x101, x102, x103, x104, x105, x106, x107, x108, x109, x110, x111, x112, x113, x114, x115, x116, x117, x118, x119, x120, x121, x122, x123], []⟩ wx) := hN
  have HR : Hid (∀ (wx : World) (y4 y5 y6 y20 y21 y22 y23 y24 y25 y26 y27 y28 y29 y30 y31 y32 y33 y34 y35 y36 y37 y38 y39 y40 y41 : Value), Below W.heap.size W wx → Q .ret ⟨#[.slice a l c, x1, .bool true, .bool true, y4, y5, y6, x7, x8, x9, x10, x11, x12, x13, x14, x15, x16, x17, x18, x19, y20, y21, y22, y23, y24, y25, y26, y27, y28, y29, y30, y31, y32, y33, y34, y35, y36, y37, y38, y39, y40, y41, x42, x43, x44, x45, x46, x47, x48, x49, x50, x51, x52, x53, x54, x55, x56, x57, x58, x59, x60, x61, x62, x63, x64, x65, x66, x67, x68, x69, x70, x71, x72, x73, x74, x75, x76, x77, x78, x79, x80, x81, x82, x83, x84, x85, x86, x87, x88, x89, x90, x91, x92, x93, x94, x95, x96, x97, x98, x99, x100, x101, x102, x103, x104, x105, x106, x107, x108, x109, x110, x111, x112, x113, x114, x115, x116, x117, x118, x119, x120, x121, x122, x123], []⟩ wx) := hR
  clear hN hR
  have hm := h.hmax
  have hc := h.hcap
  unfold maxLen at hm
  have hln := h.hlen
  refine pcSeq (fun Q1 n1 r1 _ => ?_)
  go_wp2_with fail
  refine n1 _ _ (pcBlock (fun Q2 n2 e2 r2 => ?_))
  go_loopw [4, 5] (fun v4 v5 wr => ∃ i : Nat, v5 = .int .i64 (i : Int) ∧ i ≤ l ∧ (∀ j, j < i → TabOk (ts.getD j Tab.none)) ∧ LHd (fun _ => True) wr W.heap.size v4 ((ts.take i).map (·.ids)) ∧ Below W.heap.size W wr) (fun _ v5 _ => l - (intOf v5).toNat)
  case atStart => exact ⟨0, rfl, Nat.zero_le _, fun j hj => absurd hj (by omega), LHd.nil _ _, Below.refl _ _⟩
  case round =>
    obtain ⟨i, rfl, hi, hall, hO, hbr⟩ := hrel
    refine pcSeq (fun Q3 n3 r3 e3 => me_t4 hi ?_ ?_)
    · intros
      rename_i hlt
      refine n3 _ _ (pcSeq (fun Q4 n4 r4 e4 => pcBlock (fun Q5 n5 e5 r5 => ?_)))
      obtain ⟨b, off, v, rfl, hz, ht⟩ := (h.below hbr).at hlt
      refine pcSeq (fun Q6 n6 r6 e6 => me_p6 hz hlt ht ?_)
      intro z w1
      intros
      rename_i hzt hb1
      refine n6 _ _ (pcSeq (fun Q7 n7 r7 e7 => me_p7 ?_ ?_))
      · intros
        rename_i hzt2
        have hT := hzt.1 hzt2
        have hb2 := bthen hbr hb1
        refine n7 _ _ (me_p9 ⟨bkeep hb1 hz.1 rfl, bkeep hb1 hz.2.1 rfl, bkeep hb1 hz.2.2 rfl⟩ hlt (ht.below hb1).ids (hO.below hb1) (by rw [List.length_map, List.length_take]; omega) hb2.size ?_)
        intro v' w2
        intros
        rename_i hO2 hb3
        have hln2 : i < ts.length := by omega
        refine n5 _ _ (n4 _ _ (me_p5 (by omega) ?_))
        intros
        dsimp only [Exit.then]
        go_roundw
        case rel => exact ⟨i + 1, rfl, by omega, fun j hj => by
          by_cases e : j = i
          · rw [e]; exact hT
          · exact hall j (by omega), by rw [take_snocT hln2, List.map_append]; exact hO2, hb2.trans hb3⟩
        case measure => simp [intOf]; omega
      · intros
        exact r7 _ _ (r5 _ _ (r4 _ _ (r2 _ _ (HR.out _ _ _ _ _ _ _ _ _ _ _ _ _ _ _ _ _ _ _ _ _ _ _ _ _ _ (bthen hbr hb1)))))
    · intros
      rename_i he
      subst he
      have et : ts.take i = ts := List.take_of_length_le (by omega)
      rw [et] at hO
      exact e3 _ _ _ (e2 _ _ (HN.out _ _ _ _ _ _ _ _ _ _ _ _ _ _ _ _ _ _ _ _ _ _ _ _ _ _ _ hall hO hbr))

set_option maxRecDepth 100000 in
set_option maxHeartbeats 12800000 in
theorem me_l2 {x1 x2 x3 x4 x5 x6 x8 x10 x11 x12 x13 x14 x15 x16 x17 x18 x19 x20 x21 x22 x23 x24 x25 x26 x27 x28 x29 x30 x31 x32 x33 x34 x35 x36 x37 x38 x39 x40 x41 x42 x43 x44 x45 x46 x47 x48 x49 x50 x51 x52 x53 x54 x55 x56 x57 x58 x59 x60 x61 x62 x63 x64 x65 x66 x67 x68 x69 x70 x71 x72 x73 x74 x75 x76 x77 x78 x79 x80 x81 x82 x83 x84 x85 x86 x87 x88 x89 x90 x91 x92 x93 x94 x95 x96 x97 x98 x99 x100 x101 x102 x103 x104 x105 x106 x107 x108 x109 x110 x111 x112 x113 x114 x115 x116 x117 x118 x119 x120 x121 x122 x123 : Value} {Q : Exit → Act → World → Prop} {W : World} {a r : Option Addr} {l c n k : Nat} {ts : List Tab} {xs : List Int} (OT : TakOk15) (h : TRows W a l c ts) (hl : l ≤ 16) (hx : Lsts W r n k xs) (hok : ∀ j, j < l → TakeOk (ts.getD j Tab.none) xs)
    (hN : ∀ (v' : Value) (wx : World) (y2 y10 y11 y12 y13 y14 y15 y62 y63 y64 y65 y66 y67 y68 y69 y70 y71 y72 y73 y74 y75 y76 y77 y78 y79 y80 y81 y82 y83 y84 y85 y86 y87 y88 y89 y90 y91 y92 y93 y94 y95 y96 y97 y98 y99 y100 y101 y102 y103 y104 y105 y106 y107 y108 y109 : Value), TOwn wx W.heap.size v' (ts.map (·.take xs)) → Below W.heap.size W wx → Q .normal ⟨#[.slice a l c, x1, y2, x3, x4, x5, x6, .slice r n k, x8, v', y10, y11, y12, y13, y14, y15, x16, x17, x18, x19, x20, x21, x22, x23, x24, x25, x26, x27, x28, x29, x30, x31, x32, x33, x34, x35, x36, x37, x38, x39, x40, x41, x42, x43, x44, x45, x46, x47, x48, x49, x50, x51, x52, x53, x54, x55, x56, x57, x58, x59, x60, x61, y62, y63, y64, y65, y66, y67, y68, y69, y70, y71, y72, y73, y74, y75, y76, y77, y78, y79, y80, y81, y82, y83, y84, y85, y86, y87, y88, y89, y90, y91, y92, y93, y94, y95, y96, y97, y98, y99, y100, y101, y102, y103, y104, y105, y106, y107, y108, y109, x110, x111, x112, x113, x114, x115, x116, x117, x118, x119, x120, x121, x122, x123], []⟩ wx) :
    Code.wp Try.prog ((Try.f8.body.bind (pcAt 16)).getD .skip) Q ⟨#[.slice a l c, x1, x2, x3, x4, x5, x6, .slice r n k, x8, .slice none 0 0, x10, x11, x12, x13, x14, x15, x16, x17, x18, x19, x20, x21, x22, x23, x24, x25, x26, x27, x28, x29, x30, x31, x32, x33, x34, x35, x36, x37, x38, x39, x40, x41, x42, x43, x44, x45, x46, x47, x48, x49, x50, x51, x52, x53, x54, x55, x56, x57, x58, x59, x60, x61, x62, x63, x64, x65, x66, x67, x68, x69, x70, x71, x72, x73, x74, x75, x76, x77, x78, x79, x80, x81, x82, x83, x84, x85, x86, x87, x88, x89, x90, x91, x92, x93, x94, x95, x96, x97, x98, x99, x100, x101, x102, x103, x104, x105, x106, x107, x108, x109, x110, x111, x112, x113, x114, x115, x116, x117, x118, x119, x120, x121, x122, x123], []⟩ W := by
  conv => arg 2; whnf
  have HN : Hid (∀ (v' : Value) (wx : World) (y2 y10 y11 y12 y13 y14 y15 y62 y63 y64 y65 y66 y67 y68 y69 y70 y71 y72 y73 y74 y75 y76 y77 y78 y79 y80 y81 y82 y83 y84 y85 y86 y87 y88 y89 y90 y91 y92 y93 y94 y95 y96 y97 y98 y99 y100 y101 y102 y103 y104 y105 y106 y107 y108 y109 : Value), TOwn wx W.heap.size v' (ts.map (·.take xs)) → Below W.heap.size W wx → Q .normal ⟨#[.slice a l c, x1, y2, x3, x4, x5, x6, .slice r n k, x8, v', y10, y11, y12, y13, y14, y15, x16, x17, x18, x19, x20, x21, x22, x23, x24, x25, x26, x27, x28, x29, x30, x31, x32, x33, x34, x35, x36, x37, x38, x39, x40, x41, x42, x43, x44, x45, x46, x47, x48, x49, x50, x51, x52, x53, x54, x55, x56, x57, x58, x59, x60, x61, y62, y63, y64, y65, y66, y67, y68, y69, y70, y71, y72, y73, y74, y75, y76, y77, y78, y79, y80, y81, y82, y83, y84, y85, y86, y87, y88, y89, y90, y91, y92, y93, y94, y95, y96, y97, y98, y99, y100, y101, y102, y103, y104, y105, y106, y107, y108, y109, x110, x111, x112, x113, x114, x115, x116, x117, x118, x119, x120, x121, x122, x123], []⟩ wx) := hN
  clear hN
  have hln := h.hlen
  refine pcSeq (fun Q1 n1 r1 _ => ?_)
  go_wp2_with fail
  refine n1 _ _ (pcBlock (fun Q2 n2 e2 r2 => ?_))
  go_loopw [9, 10] (fun v9 v10 wr => ∃ i : Nat, v10 = .int .i64 (i : Int) ∧ i ≤ l ∧ TOwn wr W.heap.size v9 ((ts.take i).map (·.take xs)) ∧ Below W.heap.size W wr) (fun _ v10 _ => l - (intOf v10).toNat)
  case atStart => exact ⟨0, rfl, Nat.zero_le _, TOwn.nil _ _, Below.refl _ _⟩
  case round =>
    obtain ⟨i, rfl, hi, hO, hbr⟩ := hrel
    refine pcSeq (fun Q3 n3 r3 e3 => me_t17 hi ?_ ?_)
    · intros
      rename_i hlt
      refine n3 _ _ (pcSeq (fun Q4 n4 r4 e4 => pcBlock (fun Q5 n5 e5 r5 => ?_)))
      obtain ⟨b, off, v, rfl, hz, ht⟩ := (h.below hbr).at hlt
      refine pcSeq (fun Q6 n6 r6 e6 => me_p19 OT hz hlt ht (hx.below hbr) (hok i hlt) ?_)
      intro u w1
      intros
      rename_i hF hb1
      have v1 := balloc w1 (.cells #[.slice u.p0 u.l0 u.c0, .slice u.p1 u.l1 u.c1, .slice u.p2 u.l2 u.c2] 25)
      have t1 := bthen hb1 v1
      have hs := TVar.new w1 u
      have hk := tabAt_kept15 hF.tab (grown_of_below v1 none) (fun b e => by cases e)
      have hsp := fun b (e : u9.ownBlock = some b) => hk.2 b (Sep15.of_new hF ((hO.lt b e).2))
      have hu := hk.1
      refine n6 _ _ (pcSeq (fun Q7 n7 r7 e7 => me_p20 OT ⟨bkeep t1 hz.1 rfl, bkeep t1 hz.2.1 rfl, bkeep t1 hz.2.2 rfl⟩ hlt (ht.below t1) (hok i hlt).tab ?_))
      intro s2 u2 w2
      intros
      rename_i hs2 hu2 hb2
      have t2 := bthen t1 hb2
      refine n7 _ _ (pcSeq (fun Q8 n8 r8 e8 => me_p21 ⟨bkeep t2 hz.1 rfl, bkeep t2 hz.2.1 rfl, bkeep t2 hz.2.2 rfl⟩ hlt (ht.below t2) hs2 hu2 ?_))
      intro w3
      intros
      rename_i hb3
      have t3 := bthen t2 hb3
      have t13 := bthen hb2 hb3
      have hk3 := tabAt_kept15 hu (grown_of_below t13 none) (fun b e => by cases e)
      refine n8 _ _ (pcSeq (fun Q9 n9 r9 e9 => me_p22 ?_))
      intros
      refine n9 _ _ (me_p24 (hs.below t13) hk3.1 (hO.below t3) (fun b e => hk3.2 b (hsp b e)) (by rw [List.length_map, List.length_take]; omega) (bthen hbr t3).size ?_)
      intro v' w4
      intros
      rename_i hO2 hb4
      have hln2 : i < ts.length := by omega
      refine n5 _ _ (n4 _ _ (me_p18 (by omega) ?_))
      intros
      dsimp only [Exit.then]
      go_roundw
      case rel => exact ⟨i + 1, rfl, by omega, by rw [take_snocT hln2, List.map_append]; exact hO2, (bthen hbr t3).trans hb4⟩
      case measure => simp [intOf]; omega
    · intros
      rename_i he
      subst he
      have et : ts.take i = ts := List.take_of_length_le (by omega)
      rw [et] at hO
      exact e3 _ _ _ (e2 _ _ (HN.out _ _ _ _ _ _ _ _ _ _ _ _ _ _ _ _ _ _ _ _ _ _ _ _ _ _ _ _ _ _ _ _ _ _ _ _ _ _ _ _ _ _ _ _ _ _ _ _ _ _ _ _ _ _ _ _ _ hO hbr))

set_option maxRecDepth 100000 in
theorem me_ret {x0 x1 x3 x4 x5 x6 x7 x8 x9 x10 x11 x12 x13 x14 x15 x16 x17 x18 x19 x20 x21 x22 x23 x24 x25 x26 x27 x28 x29 x30 x31 x32 x33 x34 x35 x36 x37 x38 x39 x40 x41 x42 x43 x44 x45 x46 x47 x48 x49 x50 x51 x52 x53 x54 x55 x56 x57 x58 x59 x60 x61 x62 x63 x64 x65 x66 x67 x68 x69 x70 x71 x72 x73 x74 x75 x76 x77 x78 x79 x80 x81 x82 x83 x84 x85 x86 x87 x88 x89 x90 x91 x92 x93 x94 x95 x96 x97 x98 x99 x100 x101 x102 x103 x104 x105 x106 x107 x108 x109 x110 x111 x112 x113 x114 x115 x116 x117 x118 x119 x120 x121 x122 x123 : Value}  {post : Ending → World → Prop} {W : World} (h : post (.returned (.bool true)) W) : bodyPost Try.prog Try.f8 post .ret ⟨#[x0, x1, .bool true, x3, x4, x5, x6, x7, x8, x9, x10, x11, x12, x13, x14, x15, x16, x17, x18, x19, x20, x21, x22, x23, x24, x25, x26, x27, x28, x29, x30, x31, x32, x33, x34, x35, x36, x37, x38, x39, x40, x41, x42, x43, x44, x45, x46, x47, x48, x49, x50, x51, x52, x53, x54, x55, x56, x57, x58, x59, x60, x61, x62, x63, x64, x65, x66, x67, x68, x69, x70, x71, x72, x73, x74, x75, x76, x77, x78, x79, x80, x81, x82, x83, x84, x85, x86, x87, x88, x89, x90, x91, x92, x93, x94, x95, x96, x97, x98, x99, x100, x101, x102, x103, x104, x105, x106, x107, x108, x109, x110, x111, x112, x113, x114, x115, x116, x117, x118, x119, x120, x121, x122, x123], []⟩ W :=
  bodyPost_ret (v := .bool true) (by simp [results, Try.results8, go_sem]) rfl h

set_option maxRecDepth 100000 in
set_option maxHeartbeats 12800000 in
theorem meets15_walk (OA : AliOk15) (OT : TakOk15) (OJ : JoiOk15) (a : Option Addr) (l c : Nat) (ts : List Tab) (w : World) (h : TRows w a l c ts) (hl : l ≤ 1954687338268) : Calls Try.prog 8 #[.slice a l c] w fun e w' => e = .returned (.bool true) ∧ Below w.heap.size w w' := by
  go_enter Try.func8, Try.ntmps8
  refine pcSeq (fun Q0 n0 r0 _ => me_p0 ?_)
  intros
  refine n0 _ _ (pcSeq (fun Q1 n1 r1 _ => me_p1 OA ?_))
  intro w1
  intros
  rename_i hV
  replace h := h.below hV
  refine n1 _ _ (pcSeq (fun Q2 n2 r2 _ => me_p2 ?_))
  intros
  refine n2 _ _ (pcSeq (fun Q3 n3 r3 _ => me_l1 h hl ?_ ?_))
  rotate_left
  · intro w2
    intros
    rename_i b2
    exact r3 _ _ (me_ret ⟨rfl, bthen hV b2⟩)
  intro v4 w2
  intros
  rename_i hok hO b2
  have hln := h.hlen
  replace hV := bthen hV b2
  replace h := h.below b2
  obtain ⟨q, k, rfl, hI, -⟩ := hO.row
  refine n3 _ _ (pcSeq (fun Q4 n4 r4 _ => me_p10 ?_ ?_))
  rotate_left
  · intros
    exact r4 _ _ (me_ret ⟨rfl, hV⟩)
  intros
  rename_i hf
  have hf1 := hf.1
  have hf2 := hf.2
  rw [← hln] at hok hf
  refine n4 _ _ (pcSeq (fun Q5 n5 r5 _ => me_p12 OA hI (by rw [List.length_map]; exact hf) (ids_allT hok) ?_))
  intro a7 l7 c7 xs w3
  intros
  rename_i hL hal b3
  replace hV := bthen hV b3
  replace h := h.below b3
  have htk : ∀ j, j < l → TakeOk (ts.getD j Tab.none) xs := fun j hj => align_take (by omega) hok hal (by omega)
  refine n5 _ _ (pcSeq (fun Q6 n6 r6 _ => me_p13 ?_))
  intros
  refine n6 _ _ (pcSeq (fun Q7 n7 r7 _ => me_p15 ?_))
  intros
  refine n7 _ _ (pcSeq (fun Q8 n8 r8 _ => me_l2 OT h hf2 hL htk ?_))
  intro v9 w4
  intros
  rename_i hO9 b4
  replace hV := bthen hV b4
  obtain ⟨a9, c9, rfl, hR9⟩ := hO9.rows
  refine n8 _ _ (pcSeq (fun Q9 n9 r9 _ => me_p25 OJ hR9 (by rw [List.length_map]; exact hf) (join_takes (fun j hj => htk j (by omega))) ?_))
  intro u w5
  intros
  rename_i hJ b5
  have v5 := balloc w5 (.cells #[.slice u.p0 u.l0 u.c0, .slice u.p1 u.l1 u.c1, .slice u.p2 u.l2 u.c2] 25)
  have t5 := bthen b5 v5
  have hjl : (joinT (ts.map (·.take xs))).ids = xs := by
    show ((ts.map (·.take xs)).getD 0 Tab.none).ids = xs
    rw [getD_mapT _ _ (by omega)]
    rfl
  have hJ1 := (hJ.below v5).ids
  rw [hjl] at hJ1
  refine n9 _ _ (pcSeq (fun Q10 n10 r10 _ => me_p26 (TVar.new w5 u) hJ1 ((hL.below b4).below t5) ?_))
  intro w6
  intros
  rename_i b6
  refine n10 _ _ (me_p27 ?_)
  intros
  exact me_ret ⟨rfl, bthen (bthen hV t5) b6⟩
end Go.Proofs.Ytaiikhbfnfcalaa
