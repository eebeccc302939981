/-
  Contracts of Left and Take, the program's and the document's.
-/
import Derived.Test.YtambpcgdaogojabGreatTapeA
import Derived.Deep.QuietTactic
import Derived.BigQuiet
import Derived.BigRegion
namespace Go.Proofs.YtambpcgdaogojabGreat
open Go.RowKit

set_option maxHeartbeats 400000 in
theorem left_any (g : Nat) (L : List Int) (w : World) (h : TapeAt w g L) :
    Calls Tryz.prog 113 #[.pointer (some ⟨g, 0, none⟩)] w fun e w' => e = .returned (.int .i64 (L.length : Int)) ∧ w' = w := by
  obtain ⟨h0, a, l, c, h1, h2⟩ := h
  have hl := h2.hlen
  have hm := h2.hmax
  have hcp := h2.hcap
  unfold maxLen at hm
  have hc : w.cell? ⟨g, 0, none⟩ = some (.slice a l c) := by rw [cell_of_row w g 0 _ _ _ h1]; rfl
  rw [hl]
  clear h1 h2 h0 hl
  go_enter Tryz.func113, Tryz.ntmps113
  go_wp2
  go_ret
  exact ⟨rfl, rfl⟩

theorem Byts.drop {w : World} {b off l c m : Nat} {L : List Int} (h : Byts w (some ⟨b, off, none⟩) l c L) (hm : m ≤ l) : Byts w (some ⟨b, off + m, none⟩) (l - m) (c - m) (L.drop m) := by
  have hl := h.hlen
  have hx := h.hmax
  have hc := h.hcap
  refine ⟨by simp; omega, by omega, by omega, fun hp => ?_, fun y hy => h.word y (List.mem_of_mem_drop hy)⟩
  obtain ⟨b2, o2, e, hcell⟩ := h.cells (by omega)
  cases e
  refine ⟨b, off + m, rfl, fun i hi => ?_⟩
  have := hcell (m + i) (by omega)
  rw [show off + (m + i) = off + m + i by omega] at this
  rw [this]
  simp [List.getD]

theorem BBlk.grown {w w' : World} {g : Nat} {L : List Int} {row : Option Nat} (h : BBlk w g L) (hg : w.grownBy w' row) (hne : row ≠ some g) : BBlk w' g L := by
  have hlt := h.lt
  obtain ⟨cur, h1, h2⟩ := h
  exact ⟨cur, by rw [hg.block g hlt (by intro e; exact hne e.symm)]; exact h1, h2⟩

theorem BBlk.below {w w' : World} {g : Nat} {L : List Int} {B : Nat} (h : BBlk w g L) (hb : Below B w w') (hlt : g < B) : BBlk w' g L := by
  obtain ⟨cur, h1, h2⟩ := h
  exact ⟨cur, (hb.block g hlt).trans h1, h2⟩

theorem wpList_cpB (w : World) {ops : Array Oper} {rest : List Oper} {o : Oper} {a : Act} {Q : Exit → Act → World → Prop} (hgd : o.guard = none) (d s : Operand) (dT sT : TypeId)
    (ho : o.op = .call { callee := .builtin .copy, args := #[d, s], argTypes := #[dT, sT] }) (hu : Tryz.prog.underlying dT = some (.slice 5))
    (g n cp : Nat) (L : List Int) (hd : a.eval d = .slice (some ⟨g, 0, none⟩) n cp) (hb : BBlk w g L) (hnL : L.length = n)
    (sa : Option Addr) (la ca : Nat) (zs : List Int) (hs : a.eval s = .slice sa la ca) (hz : Byts w sa la ca zs) (hle : n ≤ la) (hn0 : 0 < n)
    (h : ∀ w', BBlk w' g (zs.take n) → w.grownBy w' (some g) → w'.heap.size = w.heap.size → wpList Tryz.prog ops Q rest (a.put o.dst (goInt n)) w') :
    wpList Tryz.prog ops Q (o :: rest) a w := by
  obtain ⟨i0, hi, hz0, hz1, hz2⟩ := info_parts Tryz.infoB
  have hsz : (Tryz.prog.info? 5).map (·.size) = some 1 := by rw [hi]; simp [hz1]
  have hl := hz.hlen
  obtain ⟨b, off, rfl, hc⟩ := hz.cells (by omega)
  have hlen : ((zs.take n).map (Value.int .u8)).length = n := by simp; omega
  obtain ⟨cur, hb1, hb2⟩ := hb
  have hsize : L.length ≤ cur.size := by have := congrArg List.length hb2; simp at this; omega
  refine wpList_copy_own hgd d s dT sT ho 5 hu hsz g 0 n cp ⟨b, off, none⟩ la ca hd hs _ _ hb1 ((zs.take n).map (Value.int .u8)) (by rw [hlen]; exact (Nat.min_eq_right hle).symm) ?_ ?_ (ints_oneCell _ _) ?_
  · intro j v hj
    have hjl : j < n := by have := (List.getElem?_eq_some_iff.1 hj).1; omega
    rw [Addr.add_lit, hc j (by omega)]
    have : ((zs.take n).map (Value.int .u8))[j]? = some (.int .u8 (zs.getD j 0)) := by simp [List.getD, hjl, show j < zs.length by omega]
    rw [this] at hj
    exact hj
  · rw [hlen]; omega
  · rw [hlen]
    refine h _ ?_ ⟨rfl, rfl, rfl, by simp [World.setRow], fun k _ hk => setRow_other w g k _ (fun e => hk (by simp [e]))⟩ (by simp [World.setRow])
    refine ⟨_, setRow_heap w g _ _ _ _ hb1, ?_⟩
    have e2 : (zs.take n).length = n := by simp; omega
    rw [e2]
    simp only [List.take_zero, List.nil_append, Nat.zero_add]
    rw [List.take_append_of_le_length (by rw [hlen]; exact Nat.le_refl _), List.take_of_length_le (by rw [hlen]; exact Nat.le_refl _)]

/-- Bytes that lay there already are none of a block that was made since. -/
theorem Byts.old {w w' w'' : World} {a : Option Addr} {len cap k : Nat} {zs : List Int} (h : Byts w a len cap zs) (h' : Byts w' a len cap zs) (hk : w.heap.size ≤ k) (hg : w'.grownBy w'' (some k)) : Byts w'' a len cap zs := by
  refine ⟨h.hlen, h.hcap, h.hmax, fun hp => ?_, h.word⟩
  obtain ⟨b, off, rfl, hc⟩ := h.cells hp
  obtain ⟨b2, off2, e, hc'⟩ := h'.cells hp
  cases e
  refine ⟨b, off, rfl, fun i hi => ?_⟩
  have hlt := World.block_lt_of_cell? w _ (hc i hi)
  rw [← hc' i hi]
  exact World.cell?_of_block (w := w') (hg.block b (World.block_lt_of_cell? w' _ (hc' i hi)) (by simp; simp at hlt; omega))

/-- What Take makes of a tape. -/
def TakeT (At : World → Nat → List Int → Prop) (w : World) (g : Nat) (L : List Int) (n : Int) (e : Ending) (w' : World) : Prop :=
  ∃ a l c bs err R, e = .returned (.tuple #[.slice a l c, .int .i64 err]) ∧ Byts w' a l c bs ∧ (0 < l → ∃ k, a = some ⟨k, 0, none⟩ ∧ w.heap.size ≤ k ∧ BBlk w' k bs ∧ ∀ w'', w'.grownBy w'' (some k) → At w'' g R) ∧ ResTake L n bs err R ∧ At w' g R ∧ w.grownBy w' (some g)

theorem TakeT.none {At : World → Nat → List Int → Prop} {w w' : World} {g : Nat} {L : List Int} {n err : Int} (h : At w' g L) (hr : ResTake L n [] err L) (hg : w.grownBy w' (some g)) : TakeT At w g L n (.returned (.tuple #[.slice none 0 0, .int .i64 err])) w' :=
  ⟨_, _, _, [], err, L, rfl, Byts.nil _, fun h => absurd h (Nat.lt_irrefl _), hr, h, hg⟩

set_option maxHeartbeats 800000 in
theorem take_any (g : Nat) (L : List Int) (n : Int) (w : World) (h : TapeAt w g L) :
    Calls Tryz.prog 87 #[.pointer (some ⟨g, 0, none⟩), .int .i64 n] w fun e w' => TakeT TapeAt w g L n e w' := by
  by_cases hn0 : n < 0
  · have HR : Hid (ResTake L n [] 1 L) := by show ResTake _ _ _ _ _; unfold ResTake; rw [if_pos (.inl hn0)]; exact ⟨rfl, rfl, rfl⟩
    go_enter Tryz.func87, Tryz.ntmps87
    go_wp2
    go_ret2
    exact TakeT.none h HR.out (World.grownBy.refl _ _)
  by_cases hn1 : 65536 < n
  · have HR : Hid (ResTake L n [] 1 L) := by show ResTake _ _ _ _ _; unfold ResTake; rw [if_pos (.inr hn1)]; exact ⟨rfl, rfl, rfl⟩
    go_enter Tryz.func87, Tryz.ntmps87
    go_wp2
    go_ret2
    exact TakeT.none h HR.out (World.grownBy.refl _ _)
  have d0 : decide (n < 0) = false := by simp; omega
  have d1 : decide (65536 < n) = false := by simp; omega
  by_cases hn2 : (L.length : Int) < n
  · have HR : Hid (ResTake L n [] 7 L) := by show ResTake _ _ _ _ _; unfold ResTake; rw [if_neg (by omega), if_pos hn2]; exact ⟨rfl, rfl, rfl⟩
    go_enter Tryz.func87, Tryz.ntmps87
    go_wp2_with fail
    refine (left_any _ _ _ h).mono ?_
    rintro e w' ⟨rfl, rfl⟩
    go_wp2
    go_ret2
    exact TakeT.none h HR.out (World.grownBy.refl _ _)
  have d2 : decide ((L.length : Int) < n) = false := by simp; omega
  by_cases hn3 : n = 0
  · subst hn3
    have HR : Hid (ResTake L 0 [] 0 L) := by show ResTake _ _ _ _ _; unfold ResTake; rw [if_neg (by omega), if_neg (by omega)]; exact ⟨rfl, rfl, rfl⟩
    go_enter Tryz.func87, Tryz.ntmps87
    go_wp2_with fail
    refine (left_any _ _ _ h).mono ?_
    rintro e w' ⟨rfl, rfl⟩
    go_wp2
    go_ret2
    exact TakeT.none h HR.out (World.grownBy.refl _ _)
  obtain ⟨m, rfl⟩ : ∃ m : Nat, n = (m : Int) := ⟨n.toNat, by omega⟩
  have d3 : ((m : Int) == 0) = false := by simp; omega
  have hm0 : 0 < m := by omega
  have HR : Hid (ResTake L m (L.take m) 0 (L.drop m)) := by show ResTake _ _ _ _ _; unfold ResTake; rw [if_neg (by omega), if_neg (by omega)]; simp
  have HT : Hid (TapeAt w g L) := h
  obtain ⟨h0, a, l, c, h1, h2⟩ := h
  have hl := h2.hlen
  have hmx := h2.hmax
  have hcp := h2.hcap
  unfold maxLen at hmx
  have hml : m ≤ l := by omega
  obtain ⟨b, off, rfl, hcells⟩ := h2.cells (by omega)
  have HL : Hid (L.length = l) := hl
  have hm6 : m ≤ 65536 := by omega
  clear hl hcells h0
  go_enter Tryz.func87, Tryz.ntmps87
  go_wp2_with fail
  refine (left_any _ _ _ HT.out).mono ?_
  rintro e w' ⟨rfl, rfl⟩
  go_wp2_with (at_make; refine wpList_mkB _ rfl _ _ 26 rfl Tryz.underlying26 .i64 .i64 _ _ m rfl rfl rfl rfl (by omega) ?_)
  intro w2 hb2 hbel hsz
  have hg := HT.out.lt
  have k1 : w2.heap[g]? = some (.cells #[.slice (some ⟨b, off, none⟩) l c] 53 (0, 0)) := (hbel.block g hg).trans h1
  have k2 := h2.below hbel
  have hc : w2.cell? ⟨g, 0, none⟩ = some (.slice (some ⟨b, off, none⟩) l c) := by rw [cell_of_row w2 g 0 _ _ _ k1]; rfl
  go_wp2_with (refine wpList_cpB _ (by rfl) _ _ 26 26 (by rfl) Tryz.underlying26 w'.heap.size m m _ (by rfl) hb2 (length_noughts m) _ _ _ L (by rfl) k2 hml hm0 ?_)
  intro w3 hb3 hgr hsz3
  have k3 : w3.heap[g]? = some (.cells #[.slice (some ⟨b, off, none⟩) l c] 53 (0, 0)) := (hgr.block g (by omega) (by simp; omega)).trans k1
  have hh : Head w3 g := ⟨_, _, k3, fun j x => by match j with | 0 => simp | j + 1 => simp⟩
  have hc3 : w3.cell? ⟨g, 0, none⟩ = some (.slice (some ⟨b, off, none⟩) l c) := by rw [cell_of_row w3 g 0 _ _ _ k3]; rfl
  have hf3 : w3.frozen? ⟨g, 0, none⟩ = false := frozen_of_row w3 g 0 _ _ k3
  have hb0 : b < w'.heap.size := by
    obtain ⟨b2, o2, e, hcell⟩ := h2.cells (by omega)
    cases e
    exact World.block_lt_of_cell? w' _ (hcell 0 (by omega))
  have k4 : Byts w3 (some ⟨b, off, none⟩) l c L := by
    refine ⟨k2.hlen, k2.hcap, k2.hmax, fun hp => ?_, k2.word⟩
    obtain ⟨b2, o2, e, hcell⟩ := k2.cells hp
    cases e
    refine ⟨b, off, rfl, fun i hi => ?_⟩
    rw [← hcell i hi]
    exact World.cell?_of_block (w := w2) (hgr.block b (by omega) (by simp; omega))
  have HB : Hid (∀ v, w'.grownBy (w3.setCell ⟨g, 0, none⟩ v) (some g) ∧ BBlk (w3.setCell ⟨g, 0, none⟩ v) w'.heap.size (L.take m)) := fun v => by
    have q := grown_set w3 g 0 v
    refine ⟨⟨q.os.trans (hgr.os.trans hbel.os), q.tape.trans (hgr.tape.trans hbel.tape), q.output.trans (hgr.output.trans hbel.output), Nat.le_trans (Nat.le_trans hbel.size hgr.size) q.size, fun k hk hne => ?_⟩, hb3.grown q (by simp; omega)⟩
    rw [q.block k (by omega) hne, hgr.block k (by omega) (by simp; omega), hbel.block k hk]
  have HT3 : Hid (∀ a' : Option Addr, Byts w' a' (l - m) (c - m) (L.drop m) → Byts w3 a' (l - m) (c - m) (L.drop m) → ∀ w'', (w'' = w3.setCell ⟨g, 0, none⟩ (.slice a' (l - m) (c - m)) ∨ (w3.setCell ⟨g, 0, none⟩ (.slice a' (l - m) (c - m))).grownBy w'' (some w'.heap.size)) → TapeAt w'' g (L.drop m)) := fun a' k0 k w'' hw => by
    have e1 := heap_setCell_same w3 g 0 _ _ (.slice a' (l - m) (c - m)) k3
    have e2 := k.head (grown_set w3 g 0 (.slice a' (l - m) (c - m))) hh
    have hl : (L.drop m).length ≤ 65536 := by have := HT.out.1; simp; omega
    rcases hw with rfl | hw
    · exact ⟨hl, a', l - m, c - m, by simpa using e1, e2⟩
    · refine ⟨hl, a', l - m, c - m, ?_, k0.old e2 (Nat.le_refl _) hw⟩
      rw [hw.block g (Array.getElem?_eq_some_iff.1 e1).1 (by simp; omega)]
      simpa using e1
  have hd := k4.drop hml
  have hd0 := h2.drop hml
  have HN : Hid (Digs 256 (L.take m) ∧ (L.take m).length = m) := ⟨k4.digs.take m, by have := HL.out; simp; omega⟩
  clear k1 k2 hc hb2 hbel hsz hb3 hgr hsz3 k3 hh k4 h1 h2 HT d0 d1 d2
  by_cases hcm : c = m
  · subst hcm
    have hlc : l = c := by omega
    subst hlc
    have hdm := fun a' => hd.moved (a' := a') (by omega)
    have hdm0 := fun a' => hd0.moved (a' := a') (by omega)
    clear hd hd0
    go_wp2
    go_ret2
    have hT := fun a' => HT3.out a' (hdm0 a') (hdm a')
    simp only [Nat.sub_self] at hT
    exact ⟨_, _, _, _, _, _, rfl, (HB.out _).2.byts HN.out.1 HN.out.2 (by omega), fun _ => ⟨_, rfl, Nat.le_refl _, (HB.out _).2, fun w'' hw => hT _ w'' (.inr hw)⟩, HR.out, hT _ _ (.inl rfl), (HB.out _).1⟩
  · have hcm' : m < c := by omega
    go_wp2
    go_ret2
    have hT := HT3.out _ hd0 hd
    exact ⟨_, _, _, _, _, _, rfl, (HB.out _).2.byts HN.out.1 HN.out.2 (by omega), fun _ => ⟨_, rfl, Nat.le_refl _, (HB.out _).2, fun w'' hw => hT w'' (.inr hw)⟩, HR.out, hT _ (.inl rfl), (HB.out _).1⟩
end Go.Proofs.YtambpcgdaogojabGreat
