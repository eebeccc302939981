/-
  How tapes lie in memory, the program's and the document's; contracts of New and Left.
  Contracts of Left and Take, the program's and the document's.
  The contract of the document's Take.
  The contract of lowest: the lowest bits of some bytes, as a number.
  Contracts of drawn, Below and Small of the program's tapes.
  Contracts of Below and Small of the program's tapes.
  Contracts of Below and Small of the document's tapes.
-/
import Derived.Test.YtchmlfjjgehbkaaBytA
import Derived.Test.YtchmlfjjgehbkaaBytB
import Derived.Lib.SliceRun
import Derived.Deep.QuietTactic
import Derived.BigQuiet
import Derived.BigRegion
import Derived.Deep.RegionHeld3
import Derived.Test.YtchmlfjjgehbkaaRefB
namespace Go.Proofs.Ytchmlfjjgehbkaa
open Go.RowKit

theorem BOwn.empty (w : World) : BOwn (w.alloc (.cells #[] 5)) w.heap.size (.slice (some ⟨w.heap.size, 0, none⟩) 0 0) [] :=
  World.ownsRow_lit w #[] 0 (Nat.le_refl _) (Nat.zero_le _) rfl

theorem BOwn.fresh {w : World} {base : Nat} {v : Value} {zs : List Int} (h : BOwn w base v zs) (hd : Digs 256 zs) :
    ∃ a n cap, v = .slice a n cap ∧ Byts w a n cap zs ∧ (0 < n → ∃ g, a = some ⟨g, 0, none⟩ ∧ base ≤ g ∧ BBlk w g zs) ∧ (v ≠ .slice none 0 0 → a ≠ none) := by
  obtain ⟨h1, h2⟩ := h
  rcases h2 with ⟨rfl, hn⟩ | ⟨g, cap, cur, rfl, hb, hg, hnc, hcm, hcs, htk⟩
  · have e : zs = [] := List.eq_nil_of_length_eq_zero hn
    subst e
    exact ⟨none, 0, 0, rfl, Byts.nil _, fun h => absurd h (Nat.lt_irrefl _), fun hv => absurd rfl hv⟩
  · have hblk : BBlk w g zs := ⟨cur, hg, by simpa using htk⟩
    refine ⟨some ⟨g, 0, none⟩, zs.length, cap, rfl, ⟨rfl, hnc, hcm, fun _ => ⟨g, 0, rfl, fun i hi => ?_⟩, hd⟩, fun _ => ⟨g, rfl, hb, hblk⟩, fun _ e => by cases e⟩
    rw [Nat.zero_add]; exact hblk.cell hi

theorem wp_appBN (w : World) {o : Oper} {a : Act} {K : Act → World → Prop} {Q : Exit → Act → World → Prop} (s x : Operand) (t : TypeId)
    (ho : o.op = .call { callee := .builtin .append, args := #[s, x], argTypes := #[t, t] }) (ht : Try.prog.underlying t = some (.slice 5))
    (base : Nat) (v : Value) (zs : List Int) (hs : a.eval s = v) (hown : BOwn w base v zs) (sa : Option Addr) (m c : Nat) (ys : List Int) (hx : a.eval x = .slice sa m c) (hy : Byts w sa m c ys) (hnil : sa = none → c = 0)
    (hlen : zs.length + m < 1000000) (w0 : World) (hbase : base ≤ w.heap.size) (hb : Below base w0 w)
    (h : ∀ v' w', BOwn w' base v' (zs ++ ys) → Below base w0 w' → (v ≠ .slice none 0 0 → v' ≠ .slice none 0 0) → K (a.put o.dst v') w') : Oper.wp Try.prog o a w K Q := by
  obtain ⟨i0, hi, hz0, hz1, hz2⟩ := info_parts Try.infoB
  have hl := hy.hlen
  cases sa with
  | none =>
    have hm : m = 0 := by
      rcases Nat.eq_zero_or_pos m with h0 | h0
      · exact h0
      · obtain ⟨b, off, e, _⟩ := hy.cells h0; cases e
    subst hm
    obtain rfl := hnil rfl
    have e : ys = [] := List.eq_nil_of_length_eq_zero hl
    subst e
    have hrun := run_append_owned_none (P := Try.prog) w base t o.type 5 i0 1 ht hi _ _ _ hown
    unfold Oper.wp
    simp [execOp, ho, resolve, invoke, builtin, hs, hx, hrun, Result.andThen]
    exact h v w (by simpa using hown) hb id
  | some ad =>
    refine wp_append_own w s x t ho base 5 i0 (.int .u8 0) 1 1 ht hi hz0 hz1 hz2 rfl (by decide) v zs.length (zs.map (Value.int .u8)) hs hown ad m c (ys.map (Value.int .u8)) hx (by simp [hl]) ?_ (ints_oneCell _ _) ?_ ?_ hbase ?_
    · intro j u hj
      have hjm : j < m := by have := (List.getElem?_eq_some_iff.1 hj).1; simp at this; omega
      obtain ⟨b, off, e, hc⟩ := hy.cells (by omega)
      cases e
      rw [Addr.add_lit, hc j hjm]
      have : (ys.map (Value.int .u8))[j]? = some (.int .u8 (ys.getD j 0)) := by simp [List.getD, show j < ys.length by omega]
      rw [this] at hj
      exact hj
    · unfold maxLen; omega
    · omega
    · intro v' w' h2 h3 h4
      refine h v' w' ?_ (hb.grown h3 hbase (fun k hk => (World.ownsRow.lt hown k hk).1)) (fun hv e => hv (h4.1 e).1)
      have e : (zs ++ ys).length = zs.length + m := by simp [hl]
      unfold BOwn
      rw [e, List.map_append]
      exact h2

theorem wpList_appBN (w : World) {ops : Array Oper} {rest : List Oper} {o : Oper} {a : Act} {Q : Exit → Act → World → Prop} (hgd : o.guard = none) (s x : Operand) (t : TypeId)
    (ho : o.op = .call { callee := .builtin .append, args := #[s, x], argTypes := #[t, t] }) (ht : Try.prog.underlying t = some (.slice 5))
    (base : Nat) (v : Value) (zs : List Int) (hs : a.eval s = v) (hown : BOwn w base v zs) (sa : Option Addr) (m c : Nat) (ys : List Int) (hx : a.eval x = .slice sa m c) (hy : Byts w sa m c ys) (hnil : sa = none → c = 0)
    (hlen : zs.length + m < 1000000) (w0 : World) (hbase : base ≤ w.heap.size) (hb : Below base w0 w)
    (h : ∀ v' w', BOwn w' base v' (zs ++ ys) → Below base w0 w' → (v ≠ .slice none 0 0 → v' ≠ .slice none 0 0) → wpList Try.prog ops Q rest (a.put o.dst v') w') : wpList Try.prog ops Q (o :: rest) a w :=
  wpList_plain hgd fun _ hK => wp_appBN w s x t ho ht base v zs hs hown sa m c ys hx hy hnil hlen w0 hbase hb fun v' w' h2 h3 h4 => hK _ _ (h v' w' h2 h3 h4)

theorem step_appBN (w : World) {ops : Array Oper} {o : Oper} {a : Act} {K : Act → World → Prop} {Q : Exit → Act → World → Prop} {E : Prop} (hgd : o.guard = none) (s x : Operand) (t : TypeId)
    (ho : o.op = .call { callee := .builtin .append, args := #[s, x], argTypes := #[t, t] }) (ht : Try.prog.underlying t = some (.slice 5))
    (base : Nat) (v : Value) (zs : List Int) (hs : a.eval s = v) (hown : BOwn w base v zs) (sa : Option Addr) (m c : Nat) (ys : List Int) (hx : a.eval x = .slice sa m c) (hy : Byts w sa m c ys) (hnil : sa = none → c = 0)
    (hlen : zs.length + m < 1000000) (w0 : World) (hbase : base ≤ w.heap.size) (hb : Below base w0 w)
    (h : ∀ v' w', BOwn w' base v' (zs ++ ys) → Below base w0 w' → (v ≠ .slice none 0 0 → v' ≠ .slice none 0 0) → K (a.put o.dst v') w') : if Region.wanted o (yielded ops a.tmps) = true then Oper.wp Try.prog o a w K Q else E := by
  have hw : Region.wanted o (yielded ops a.tmps) = true := by simp [Region.wanted, hgd]
  rw [if_pos hw]
  exact wp_appBN w s x t ho ht base v zs hs hown sa m c ys hx hy hnil hlen w0 hbase hb h

/-- Block g holds neither bytes nor words. -/
def Head (w : World) (g : Nat) : Prop := ∃ cur T, w.heap[g]? = some (.cells cur T (0, 0)) ∧ ∀ (j : Nat) (x : Int), cur[j]? ≠ some (.int .u8 x) ∧ cur[j]? ≠ some (.int .u64 x)

theorem Byts.head {w w' : World} {a : Option Addr} {len cap g : Nat} {zs : List Int} (h : Byts w a len cap zs) (hg : w.grownBy w' (some g)) (hd : Head w g) : Byts w' a len cap zs := by
  refine ⟨h.hlen, h.hcap, h.hmax, fun hp => ?_, h.word⟩
  obtain ⟨b, off, ha, hc⟩ := h.cells hp
  refine ⟨b, off, ha, fun i hi => ?_⟩
  have hne : b ≠ g := by
    rintro rfl
    obtain ⟨cur, T, h1, h2⟩ := hd
    have := hc i hi
    rw [cell_of_row w b (off + i) _ _ _ h1] at this
    exact (h2 _ _).1 this
  rw [← hc i hi]
  exact World.cell?_of_block (w := w) (hg.block b (World.block_lt_of_cell? w _ (hc i hi)) (fun e => hne (by simpa using e)))

theorem Nums.head {w w' : World} {a : Option Addr} {len cap g : Nat} {zs : List Int} (h : Nums w a len cap zs) (hg : w.grownBy w' (some g)) (hd : Head w g) : Nums w' a len cap zs := by
  refine h.grown hg (fun hp => ?_)
  rintro x rfl e
  obtain ⟨b, off, ha, hc⟩ := h.cells hp
  cases ha
  simp at e
  subst e
  obtain ⟨cur, T, h1, h2⟩ := hd
  have := hc 0 hp
  rw [cell_of_row w b (off + 0) _ _ _ h1] at this
  exact (h2 _ _).2 this

/-- What New tells of so many bytes. -/
def NewT (At : World → Nat → List Int → Prop) (w : World) (len : Nat) (bs : List Int) (e : Ending) (w' : World) : Prop :=
  Below w.heap.size w w' ∧ ((65536 < len ∧ e = .returned (.tuple #[.pointer none, .int .i64 1])) ∨ (len ≤ 65536 ∧ ∃ g, e = .returned (.tuple #[.pointer (some ⟨g, 0, none⟩), .int .i64 0]) ∧ At w' g bs ∧ w.heap.size ≤ g))

end Go.Proofs.Ytchmlfjjgehbkaa

namespace Go.Proofs.Ytchmlfjjgehbkaa
open Go.RowKit

theorem Byts.drop {w : World} {b off l c m : Nat} {L : List Int} (h : Byts w (some ⟨b, off, none⟩) l c L) (hm : m ≤ l) : Byts w (some ⟨b, off + m, none⟩) (l - m) (c - m) (L.drop m) := by
  have hl := h.hlen
  have hx := h.hmax
  have hc := h.hcap
  refine ⟨by simp; omega, by omega, by omega, fun hp => ?_, fun y hy => h.word y (List.mem_of_mem_drop hy)⟩
  obtain ⟨b2, o2, e, hcell⟩ := h.cells (by omega)
  cases e
  refine ⟨b, off + m, rfl, fun i hi => ?_⟩
  have := hcell (m + i) (by omega)
  rw [show off + (m + i) = off + m + i by omega] at this
  rw [this]
  simp [List.getD]

theorem BBlk.grown {w w' : World} {g : Nat} {L : List Int} {row : Option Nat} (h : BBlk w g L) (hg : w.grownBy w' row) (hne : row ≠ some g) : BBlk w' g L := by
  have hlt := h.lt
  obtain ⟨cur, h1, h2⟩ := h
  exact ⟨cur, by rw [hg.block g hlt (by intro e; exact hne e.symm)]; exact h1, h2⟩

theorem BBlk.below {w w' : World} {g : Nat} {L : List Int} {B : Nat} (h : BBlk w g L) (hb : Below B w w') (hlt : g < B) : BBlk w' g L := by
  obtain ⟨cur, h1, h2⟩ := h
  exact ⟨cur, (hb.block g hlt).trans h1, h2⟩

theorem wpList_cpB (w : World) {ops : Array Oper} {rest : List Oper} {o : Oper} {a : Act} {Q : Exit → Act → World → Prop} (hgd : o.guard = none) (d s : Operand) (dT sT : TypeId)
    (ho : o.op = .call { callee := .builtin .copy, args := #[d, s], argTypes := #[dT, sT] }) (hu : Try.prog.underlying dT = some (.slice 5))
    (g n cp : Nat) (L : List Int) (hd : a.eval d = .slice (some ⟨g, 0, none⟩) n cp) (hb : BBlk w g L) (hnL : L.length = n)
    (sa : Option Addr) (la ca : Nat) (zs : List Int) (hs : a.eval s = .slice sa la ca) (hz : Byts w sa la ca zs) (hle : n ≤ la) (hn0 : 0 < n)
    (h : ∀ w', BBlk w' g (zs.take n) → w.grownBy w' (some g) → w'.heap.size = w.heap.size → wpList Try.prog ops Q rest (a.put o.dst (goInt n)) w') :
    wpList Try.prog ops Q (o :: rest) a w := by
  obtain ⟨i0, hi, hz0, hz1, hz2⟩ := info_parts Try.infoB
  have hsz : (Try.prog.info? 5).map (·.size) = some 1 := by rw [hi]; simp [hz1]
  have hl := hz.hlen
  obtain ⟨b, off, rfl, hc⟩ := hz.cells (by omega)
  have hlen : ((zs.take n).map (Value.int .u8)).length = n := by simp; omega
  obtain ⟨cur, hb1, hb2⟩ := hb
  have hsize : L.length ≤ cur.size := by have := congrArg List.length hb2; simp at this; omega
  refine wpList_copy_own hgd d s dT sT ho 5 hu hsz g 0 n cp ⟨b, off, none⟩ la ca hd hs _ _ hb1 ((zs.take n).map (Value.int .u8)) (by rw [hlen]; exact (Nat.min_eq_right hle).symm) ?_ ?_ (ints_oneCell _ _) ?_
  · intro j v hj
    have hjl : j < n := by have := (List.getElem?_eq_some_iff.1 hj).1; omega
    rw [Addr.add_lit, hc j (by omega)]
    have : ((zs.take n).map (Value.int .u8))[j]? = some (.int .u8 (zs.getD j 0)) := by simp [List.getD, hjl, show j < zs.length by omega]
    rw [this] at hj
    exact hj
  · rw [hlen]; omega
  · rw [hlen]
    refine h _ ?_ ⟨rfl, rfl, rfl, by simp [World.setRow], fun k _ hk => setRow_other w g k _ (fun e => hk (by simp [e]))⟩ (by simp [World.setRow])
    refine ⟨_, setRow_heap w g _ _ _ _ hb1, ?_⟩
    have e2 : (zs.take n).length = n := by simp; omega
    rw [e2]
    simp only [List.take_zero, List.nil_append, Nat.zero_add]
    rw [List.take_append_of_le_length (by rw [hlen]; exact Nat.le_refl _), List.take_of_length_le (by rw [hlen]; exact Nat.le_refl _)]

/-- Bytes that lay there already are none of a block that was made since. -/
theorem Byts.old {w w' w'' : World} {a : Option Addr} {len cap k : Nat} {zs : List Int} (h : Byts w a len cap zs) (h' : Byts w' a len cap zs) (hk : w.heap.size ≤ k) (hg : w'.grownBy w'' (some k)) : Byts w'' a len cap zs := by
  refine ⟨h.hlen, h.hcap, h.hmax, fun hp => ?_, h.word⟩
  obtain ⟨b, off, rfl, hc⟩ := h.cells hp
  obtain ⟨b2, off2, e, hc'⟩ := h'.cells hp
  cases e
  refine ⟨b, off, rfl, fun i hi => ?_⟩
  have hlt := World.block_lt_of_cell? w _ (hc i hi)
  rw [← hc' i hi]
  exact World.cell?_of_block (w := w') (hg.block b (World.block_lt_of_cell? w' _ (hc' i hi)) (by simp; simp at hlt; omega))

/-- What Take makes of a tape. -/
def TakeT (At : World → Nat → List Int → Prop) (w : World) (g : Nat) (L : List Int) (n : Int) (e : Ending) (w' : World) : Prop :=
  ∃ a l c bs err R, e = .returned (.tuple #[.slice a l c, .int .i64 err]) ∧ Byts w' a l c bs ∧ (0 < l → ∃ k, a = some ⟨k, 0, none⟩ ∧ w.heap.size ≤ k ∧ BBlk w' k bs ∧ ∀ w'', w'.grownBy w'' (some k) → At w'' g R) ∧ ResTake L n bs err R ∧ At w' g R ∧ w.grownBy w' (some g)

theorem TakeT.none {At : World → Nat → List Int → Prop} {w w' : World} {g : Nat} {L : List Int} {n err : Int} (h : At w' g L) (hr : ResTake L n [] err L) (hg : w.grownBy w' (some g)) : TakeT At w g L n (.returned (.tuple #[.slice none 0 0, .int .i64 err])) w' :=
  ⟨_, _, _, [], err, L, rfl, Byts.nil _, fun h => absurd h (Nat.lt_irrefl _), hr, h, hg⟩

end Go.Proofs.Ytchmlfjjgehbkaa

namespace Go.Proofs.Ytchmlfjjgehbkaa
open Go.RowKit

theorem Byts.part {w : World} {a : Option Addr} {b off l c u m : Nat} {L : List Int} (h : Byts w (some ⟨b, off, none⟩) l c L) (hm : u + m ≤ l) (ha : 0 < m → a = some ⟨b, off + u, none⟩) : Byts w a m (c - u) ((L.drop u).take m) := by
  have hl := h.hlen
  have hx := h.hmax
  have hc := h.hcap
  refine ⟨by simp; omega, by omega, by omega, fun hp => ?_, fun y hy => h.word y (List.mem_of_mem_drop (List.mem_of_mem_take hy))⟩
  obtain ⟨b2, o2, e, hcell⟩ := h.cells (by omega)
  cases e
  refine ⟨b, off + u, ha hp, fun i hi => ?_⟩
  have := hcell (u + i) (by omega)
  rw [show off + (u + i) = off + u + i by omega] at this
  rw [this]
  simp [List.getD, hi]

theorem Byts.drew {w : World} {a : Option Addr} {l c : Nat} {L : List Int} (h : Byts w a l c L) : Byts w.drew a l c L := ⟨h.hlen, h.hcap, h.hmax, h.cells, h.word⟩
theorem Byts.alloc {w : World} {a : Option Addr} {l c : Nat} {L : List Int} (h : Byts w a l c L) (o : Obj) : Byts (w.alloc o) a l c L := h.below ((Below.refl _ _).alloc (Nat.le_refl _) _)

theorem Byts.empty {w : World} {a : Option Addr} {c : Nat} (hc : c ≤ maxLen) : Byts w a 0 c [] := ⟨rfl, Nat.zero_le _, hc, fun h => absurd h (Nat.lt_irrefl _), fun x hx => by cases hx⟩

end Go.Proofs.Ytchmlfjjgehbkaa

namespace Go.Proofs.Ytchmlfjjgehbkaa
open Go.RowKit

theorem res_fits0 {v : Int} {ls : List Int} {e : Int} (h : Res v ls e) (hv : v < 18446744073709551616 ^ 64) : Res v ls 0 ∧ e = 0 := by
  rcases h with h | ⟨rfl, rfl, zs, d, t, hz, hl⟩
  · obtain ⟨rfl, h⟩ := h
    exact ⟨.inl ⟨rfl, h⟩, rfl⟩
  · have h1 := val_ge (B := 18446744073709551616) (by decide) d t (by intro e; subst e; simp at hl)
    have h2 := pow_mono (B := 18446744073709551616) (by decide) (show 64 ≤ zs.length - 1 by omega)
    omega

theorem byte_mask (y : Int) (s : Nat) (hy : 0 ≤ y ∧ y < 256) (hs : s < 8) : bits .and .u8 y (255 / 2 ^ s) = y % 2 ^ (8 - s) := by
  obtain ⟨h0, h1⟩ := hy
  have : s = 0 ∨ s = 1 ∨ s = 2 ∨ s = 3 ∨ s = 4 ∨ s = 5 ∨ s = 6 ∨ s = 7 := by omega
  rcases this with rfl | rfl | rfl | rfl | rfl | rfl | rfl | rfl <;> (simp; go_bits2)

theorem bytes_lt {bs : List Int} {k : Nat} (h : Digs 256 bs) (hk : bs.length ≤ k) : 0 ≤ val 256 bs.reverse ∧ val 256 bs.reverse < 256 ^ k := by
  have hr : Digs 256 bs.reverse := fun x hx => h x (List.mem_reverse.1 hx)
  exact ⟨val_nonneg (by decide) hr, val_lt_pow (by decide) hr (by simpa using hk)⟩

theorem BBlk.bytsC {w : World} {g n c : Nat} {L : List Int} (h : BBlk w g L) (hd : Digs 256 L) (hl : L.length = n) (hn : n ≤ c) (hc : c ≤ maxLen) : Byts w (some ⟨g, 0, none⟩) n c L := by
  subst hl
  refine ⟨rfl, hn, hc, fun _ => ⟨g, 0, rfl, fun i hi => ?_⟩, hd⟩
  rw [Nat.zero_add]; exact h.cell hi

end Go.Proofs.Ytchmlfjjgehbkaa

namespace Go.Proofs.Ytchmlfjjgehbkaa
open Go.RowKit

theorem sub_one {zs ms : List Int} {e : Int} (hd : Digs 18446744073709551616 zs) (hr : rightB zs = true) (hp : 0 < zs.length) (h : ResSub zs (ofZ 1) ms e) :
    Digs 18446744073709551616 ms ∧ rightB ms = true ∧ Top ms ∧ val 18446744073709551616 ms = val 18446744073709551616 zs - 1 := by
  have h1 : 1 ≤ val 18446744073709551616 zs := by
    have := val_ge (B := 18446744073709551616) (by decide) hd (right_top hr) (by intro e; subst e; simp at hp)
    have := pow_pos' (B := 18446744073709551616) (by decide) (zs.length - 1)
    omega
  have hv1 : val 18446744073709551616 (ofZ 1) = 1 := by decide
  have hr1 : rightB (ofZ 1) = true := by decide
  unfold ResSub at h
  rw [hr, hr1, if_pos (show (true && true) = true from rfl), hv1, if_neg (by omega)] at h
  have hlt := val_lt_pow (B := 18446744073709551616) (by decide) hd (right_len hr)
  obtain ⟨_, a, b, c⟩ := res_fits h (by omega)
  exact ⟨a, b, right_top b, c⟩

/-- How many bytes a try takes. -/
theorem try_bytes {ms : List Int} (hd : Digs 18446744073709551616 ms) (hr : rightB ms = true) (h0 : bitsZ ms ≠ 0) :
    ∃ W k : Nat, bitsZ ms = (W : Int) ∧ ((W : Int) + 7) / 8 = (k : Int) ∧ 0 < W ∧ W ≤ 4096 ∧ 0 < k ∧ k ≤ 512 ∧ 8 * k < W + 8 ∧ W ≤ 8 * k ∧ ((bitsZ ms + 7) / 8).toNat = k ∧ (bitsZ ms).toNat = W := by
  have hb := bits_lt hd hr (E := (val 18446744073709551616 ms).toNat) (by have := val_nonneg (B := 18446744073709551616) (by decide) hd; omega)
  have hl := right_len hr
  refine ⟨(bitsZ ms).toNat, ((bitsZ ms + 7) / 8).toNat, ?_, ?_, ?_, ?_, ?_, ?_, ?_, ?_, rfl, rfl⟩ <;> omega

theorem cmp_less {xs zs : List Int} (hx : rightB xs = true) (hz : rightB zs = true) : (cmpN xs zs < 0) = (val 18446744073709551616 xs < val 18446744073709551616 zs) := by
  unfold cmpN cmpZ
  rw [hx, hz, if_pos (show (true && true) = true from rfl)]
  apply propext
  split
  · simp_all
  · split <;> simp_all

/-- What a draw makes of a tape. -/
def BelowT (At : World → Nat → List Int → Prop) (w : World) (g : Nat) (zs L : List Int) (e : Ending) (w' : World) : Prop :=
  ∃ a n c ls err R, e = .returned (.tuple #[.slice a n c, .int .i64 err]) ∧ Nums w' a n c ls ∧ ResBelow zs L ls err R ∧ At w' g R ∧ w.grownBy w' (some g)

theorem resBelow_of {zs ms L ls : List Int} {err : Int} {R : List Int} {r : Option Int} {W k : Nat} (hr : rightB zs = true) (hp : 0 < zs.length) (hd : Digs 18446744073709551616 ms) (ht : Top ms) (hv : val 18446744073709551616 ms = val 18446744073709551616 zs - 1)
    (hW : bitsZ ms = (W : Int)) (hW0 : 0 < W) (hk : ((bitsZ ms + 7) / 8).toNat = k) (h : Drawn k (2 ^ W) (val 18446744073709551616 zs) L r R) (he : (r = none ∧ ls = [] ∧ err = 7) ∨ (∃ x, r = some x ∧ Res x ls err)) : ResBelow zs L ls err R := by
  unfold ResBelow
  rw [if_pos ⟨hr, hp⟩]
  refine ⟨ms, hd, ht, hv, ?_⟩
  rw [if_neg (by omega), hk, show (bitsZ ms).toNat = W by omega]
  exact ⟨r, h, he⟩

theorem grown_below {w w' w2 : World} {g : Nat} (h : w.grownBy w' (some g)) (hb : Below w'.heap.size w' w2) : w.grownBy w2 (some g) := grown_trans h (grown_of_below hb _)

end Go.Proofs.Ytchmlfjjgehbkaa

namespace Go.Proofs.Ytchmlfjjgehbkaa
open Go.RowKit

theorem resBelow_wrong {zs L : List Int} (h : ¬ (rightB zs = true ∧ 0 < zs.length)) : ResBelow zs L [] 1 L := by
  unfold ResBelow
  rw [if_neg h]
  exact ⟨rfl, rfl, rfl⟩

/-- What is told of a small draw. -/
def ResSmall (n : Int) (L : List Int) (v err : Int) (R : List Int) : Prop := if n < 1 then v = 0 ∧ err = 1 ∧ R = L else ∃ ls, ResBelow (ofZ n) L ls err R ∧ v = smallZ ls

theorem ResSmall.unique {n : Int} {L : List Int} {v u e f : Int} {R S : List Int} (h : ResSmall n L v e R) (h' : ResSmall n L u f S) : v = u ∧ e = f ∧ R = S := by
  unfold ResSmall at h h'
  split at h
  · rename_i hc
    rw [if_pos hc] at h'
    obtain ⟨rfl, rfl, rfl⟩ := h
    obtain ⟨rfl, rfl, rfl⟩ := h'
    exact ⟨rfl, rfl, rfl⟩
  · rename_i hc
    rw [if_neg hc] at h'
    obtain ⟨ls, h1, rfl⟩ := h
    obtain ⟨ks, h2, rfl⟩ := h'
    obtain ⟨rfl, rfl, rfl⟩ := h1.unique h2
    exact ⟨rfl, rfl, rfl⟩

/-- How many bits the number ahead of n has. -/
def widthZ (n : Int) : Nat := (bitsZ (ofZ (n - 1))).toNat

theorem ofZ_word {n : Int} (h : 0 ≤ n ∧ n < 18446744073709551616) : Digs 18446744073709551616 (ofZ n) ∧ rightB (ofZ n) = true ∧ val 18446744073709551616 (ofZ n) = n := by
  unfold ofZ
  split
  · subst n; exact ⟨Digs.nil _, rfl, rfl⟩
  · refine ⟨fun x hx => ?_, ?_, ?_⟩
    · simp at hx; subst hx; exact h
    · simp [rightB]; assumption
    · simp [val]

theorem small_val {ls : List Int} {x : Int} (hd : Digs 18446744073709551616 ls) (hr : rightB ls = true) (hv : val 18446744073709551616 ls = x) (hx : x < 18446744073709551616) : smallZ ls = x := by
  have hl : ls.length ≤ 1 := len_le (B := 18446744073709551616) (by decide) hd (right_top hr) (by rw [hv]; omega)
  unfold smallZ
  rw [hr, if_pos (by simpa using hl)]
  match ls, hl with
  | [], _ => simpa [val] using hv
  | [y], _ => simpa [val] using hv

theorem small_out {n : Int} {L : List Int} {v err : Int} {R : List Int} (h : ResSmall n L v err R) (h1 : 1 ≤ n) (h2 : n < 9223372036854775808) :
    (widthZ n = 0 ∧ v = 0 ∧ err = 0 ∧ R = L) ∨ (0 < widthZ n ∧ ((Drawn ((widthZ n + 7) / 8) (2 ^ widthZ n) n L none R ∧ v = 0 ∧ err = 7) ∨ (Drawn ((widthZ n + 7) / 8) (2 ^ widthZ n) n L (some v) R ∧ err = 0 ∧ 0 ≤ v ∧ v < n))) := by
  unfold ResSmall at h
  rw [if_neg (by omega)] at h
  obtain ⟨ls, h, rfl⟩ := h
  obtain ⟨od, or', ov⟩ := ofZ_word (n := n) (by omega)
  have ol : 0 < (ofZ n).length := by unfold ofZ; rw [if_neg (by omega)]; simp
  unfold ResBelow at h
  rw [if_pos ⟨or', ol⟩, ov] at h
  obtain ⟨ms, md, mt, mv, h⟩ := h
  obtain ⟨pd, pr, pv⟩ := ofZ_word (n := n - 1) (by omega)
  have em : ms = ofZ (n - 1) := val_inj (by decide) md pd mt (right_top pr) (mv.trans pv.symm)
  subst em
  have hw0 : 0 ≤ bitsZ (ofZ (n - 1)) := (bits_lt pd pr (E := (n - 1).toNat) (by rw [pv]; omega)).1
  split at h
  · rename_i hc
    obtain ⟨rfl, rfl, rfl⟩ := h
    left
    exact ⟨by unfold widthZ; omega, by decide, rfl, rfl⟩
  · rename_i hc
    right
    have ew : ((bitsZ (ofZ (n - 1)) + 7) / 8).toNat = (widthZ n + 7) / 8 := by unfold widthZ; omega
    rw [ew] at h
    obtain ⟨r, hd, h⟩ := h
    refine ⟨by unfold widthZ; omega, ?_⟩
    rcases h with ⟨rfl, rfl, rfl⟩ | ⟨x, rfl, hx⟩
    · left; exact ⟨hd, by decide, rfl⟩
    · right
      have hb := hd.told (pow_pos' (by decide) _) x rfl
      have hp := pow_mono (B := 18446744073709551616) (by decide) (show 1 ≤ 64 by omega)
      rw [Int.pow_succ, Int.pow_zero, Int.one_mul] at hp
      obtain ⟨e0, xd, xr, xv⟩ := res_fits hx (by omega)
      have := small_val xd xr xv (by omega)
      rw [this]
      exact ⟨hd, e0, hb.1, hb.2⟩

theorem small_bd {n : Int} {L : List Int} {v err : Int} {R : List Int} (h : ResSmall n L v err R) (h1 : 1 ≤ n) (h2 : n < 9223372036854775808) : 0 ≤ v ∧ v < n := by
  rcases small_out h h1 h2 with ⟨_, rfl, _⟩ | ⟨_, ⟨_, rfl, _⟩ | ⟨_, _, h3⟩⟩
  · omega
  · omega
  · exact h3

/-- What a small draw makes of a tape. -/
def SmallT (At : World → Nat → List Int → Prop) (w : World) (g : Nat) (n : Int) (L : List Int) (e : Ending) (w' : World) : Prop :=
  ∃ v err R, e = .returned (.tuple #[.int .i64 v, .int .i64 err]) ∧ ResSmall n L v err R ∧ At w' g R ∧ w.grownBy w' (some g)

end Go.Proofs.Ytchmlfjjgehbkaa

namespace Go.Proofs.Ytchmlfjjgehbkaa
open Go.RowKit

theorem shr_of {xs ts : List Int} {v e : Int} {W : Nat} (hr : rightB xs = true) (hv : val 18446744073709551616 xs = v) (h : ResShr xs W ts e) : Digs 18446744073709551616 ts ∧ rightB ts = true ∧ val 18446744073709551616 ts = v / 2 ^ W := by
  unfold ResShr at h
  rw [hr, if_pos (by simp)] at h
  obtain ⟨_, d, t, l, hv2⟩ := h
  refine ⟨d, right_mk l t, ?_⟩
  rw [hv2, hv]; simp

theorem shl_of {ts hs : List Int} {t e : Int} {W : Nat} (hd : Digs 18446744073709551616 ts) (hr : rightB ts = true) (hv : val 18446744073709551616 ts = t) (hW : W ≤ 4096) (hfit : t * 2 ^ W < 18446744073709551616 ^ 64) (h : ResShl ts W hs e) : Digs 18446744073709551616 hs ∧ rightB hs = true ∧ val 18446744073709551616 hs = t * 2 ^ W := by
  unfold ResShl at h
  rw [hr, if_pos (by simp)] at h
  split at h
  · rename_i h0
    obtain ⟨_, rfl⟩ := h
    have : ts = [] := List.eq_nil_of_length_eq_zero h0
    subst this
    simp [val] at hv
    subst hv
    exact ⟨Digs.nil _, rfl, by simp [val]⟩
  · rw [if_neg (by omega), hv] at h
    simp only [Int.toNat_natCast] at h
    obtain ⟨_, a, b, c⟩ := res_fits h hfit
    exact ⟨a, b, c⟩

theorem low_ofT {xs hs ls : List Int} {v e : Int} {W : Nat} (hx : rightB xs = true) (hh : rightB hs = true) (hxv : val 18446744073709551616 xs = v) (hhv : val 18446744073709551616 hs = v / 2 ^ W * 2 ^ W) (hv0 : 0 ≤ v) (hfit : v < 18446744073709551616 ^ 64) (h : ResSub xs hs ls e) : Res (v % 2 ^ W) ls 0 := by
  have hp := pow_pos' (B := 2) (by decide) W
  have e1 := Int.emod_add_mul_ediv v (2 ^ W)
  have e2 := Int.emod_nonneg v (show (2 : Int) ^ W ≠ 0 by omega)
  have e3 := Int.mul_comm (v / 2 ^ W) (2 ^ W)
  have e4 : v % 2 ^ W ≤ v := by
    have : 0 ≤ 2 ^ W * (v / 2 ^ W) := Int.mul_nonneg (by omega) (Int.ediv_nonneg hv0 (by omega))
    omega
  unfold ResSub at h
  rw [hx, hh, if_pos (show (true && true) = true from rfl), hxv, hhv, if_neg (by omega), show v - v / 2 ^ W * 2 ^ W = v % 2 ^ W by omega] at h
  exact (res_fits0 h (by omega)).1

theorem high_fits {v : Int} {W : Nat} (hv0 : 0 ≤ v) (hfit : v < 18446744073709551616 ^ 64) : v / 2 ^ W * 2 ^ W < 18446744073709551616 ^ 64 := by
  have hp := pow_pos' (B := 2) (by decide) W
  have e1 := Int.emod_add_mul_ediv v (2 ^ W)
  have e2 := Int.emod_nonneg v (show (2 : Int) ^ W ≠ 0 by omega)
  have e3 := Int.mul_comm (v / 2 ^ W) (2 ^ W)
  omega

end Go.Proofs.Ytchmlfjjgehbkaa
