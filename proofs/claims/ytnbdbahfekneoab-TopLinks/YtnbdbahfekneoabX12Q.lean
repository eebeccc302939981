/-
  Rows of natural numbers whose block holds slices alone: what they are put behind stays.
  Contracts of the program's numberCode, natCode and listCode (wire).
  The contract of the program's Encode (wire). Written by mk/x12e.py.
-/
import Derived.Test.YtnbdbahfekneoabW12A
import Derived.Test.YtnbdbahfekneoabTapeP
import Derived.ArgAppend
import Derived.Lib.AppendZeros
import Derived.Test.YtnbdbahfekneoabX9P
import Derived.Test.YtnbdbahfekneoabC9C
import Derived.Test.YtnbdbahfekneoabX12P
import Derived.Test.YtnbdbahfekneoabW12B
import Derived.Deep.RegionHeld3
namespace Go.Proofs.Ytnbdbahfekneoab
open Go.RowKit

/-- A row of natural numbers in a block of slices alone, from block 'base' on. -/
def NHd (w : World) (base : Nat) (v : Value) (ns : List (List Int)) : Prop :=
  (v = .slice none 0 0 ∧ ns = []) ∨ ∃ b cap cur, v = .slice (some ⟨b, 0, none⟩) ns.length cap ∧ base ≤ b ∧ w.heap[b]? = some (.cells cur 53 (0, 0)) ∧ ns.length ≤ cap ∧ cap ≤ maxLen ∧ cur.size = cap ∧ (∀ j, j < cap → ∃ p n c, cur[j]? = some (.slice p n c)) ∧ ∀ i, i < ns.length → ∃ p n c, cur[i]? = some (.slice p n c) ∧ Nums w p n c (ns.getD i [])
theorem NHd.nil (w : World) (base : Nat) : NHd w base (.slice none 0 0) [] := .inl ⟨rfl, rfl⟩
theorem head_slices {w : World} {b cap : Nat} {cur : Array Value} {t : TypeId} (hg : w.heap[b]? = some (.cells cur t (0, 0))) (hs : cur.size = cap) (hc : ∀ j, j < cap → ∃ p n c, cur[j]? = some (.slice p n c)) : Head w b := by
  refine ⟨cur, t, hg, fun j x => ?_⟩
  by_cases hj : j < cap
  · obtain ⟨p, n, c, e⟩ := hc j hj
    rw [e]
    exact ⟨by simp, by simp⟩
  · rw [Array.getElem?_eq_none (by omega)]
    exact ⟨by simp, by simp⟩
theorem NHd.own {w : World} {base : Nat} {v : Value} {ns : List (List Int)} (h : NHd w base v ns) : ∀ b, v.ownBlock = some b → Head w b ∧ base ≤ b ∧ b < w.heap.size := fun q e => by
  rcases h with ⟨rfl, rfl⟩ | ⟨b, cap, cur, rfl, hb, hg, _, _, hs, hc, _⟩
  · simp [Value.ownBlock] at e
  · simp [Value.ownBlock] at e
    subst e
    exact ⟨head_slices hg hs hc, hb, (Array.getElem?_eq_some_iff.1 hg).1⟩
theorem NHd.head {w w' : World} {base g : Nat} {v : Value} {ns : List (List Int)} (h : NHd w base v ns) (hg : w.grownBy w' (some g)) (hd : Head w g) (hne : ∀ b, v.ownBlock = some b → b ≠ g) : NHd w' base v ns := by
  rcases h with h | ⟨b, cap, cur, rfl, hb, hb2, h1, h2, hs, hc, hi⟩
  · exact .inl h
  · refine .inr ⟨b, cap, cur, rfl, hb, (hg.block b (Array.getElem?_eq_some_iff.1 hb2).1 (fun e => hne b rfl (by simpa using e))).trans hb2, h1, h2, hs, hc, fun i hi' => ?_⟩
    obtain ⟨p, n, c, e, hn⟩ := hi i hi'
    exact ⟨p, n, c, e, hn.head hg hd⟩
theorem NHd.below {w w' : World} {base : Nat} {v : Value} {ns : List (List Int)} (h : NHd w base v ns) (hb : Below w.heap.size w w') : NHd w' base v ns := by
  rcases h with h | ⟨b, cap, cur, rfl, h0, hb2, h1, h2, hs, hc, hi⟩
  · exact .inl h
  · refine .inr ⟨b, cap, cur, rfl, h0, (hb.block b (Array.getElem?_eq_some_iff.1 hb2).1).trans hb2, h1, h2, hs, hc, fun i hi' => ?_⟩
    obtain ⟨p, n, c, e, hn⟩ := hi i hi'
    exact ⟨p, n, c, e, hn.below hb⟩
theorem NHd.row {w : World} {base : Nat} {v : Value} {ns : List (List Int)} (h : NHd w base v ns) : ∃ a c, v = .slice a ns.length c ∧ NRow w a ns.length c ns ∧ (a = none → c = 0) := by
  rcases h with ⟨rfl, rfl⟩ | ⟨b, cap, cur, rfl, h0, hb2, h1, h2, hs, hc, hi⟩
  · exact ⟨none, 0, rfl, NRow.nil _, fun _ => rfl⟩
  · refine ⟨_, cap, rfl, ⟨rfl, h1, h2, fun _ => ⟨b, 0, rfl, fun i hi' => ?_⟩⟩, fun e => by cases e⟩
    obtain ⟨p, n, c, e, hn⟩ := hi i hi'
    exact ⟨p, n, c, by rw [Nat.zero_add, cell_of_row w b i cur _ _ hb2]; exact e, hn⟩
theorem nh_snoc {Ls : List (List Int)} {bs : List Int} {i : Nat} (h : i < Ls.length) : (Ls ++ [bs]).getD i [] = Ls.getD i [] := by unfold List.getD; rw [List.getElem?_append_left h]
theorem nh_last {Ls : List (List Int)} {bs : List Int} : (Ls ++ [bs]).getD Ls.length [] = bs := by simp [List.getD]
theorem nh_zero (k j : Nat) (hj : j < k) : ∃ p n c, (Builtin.zeroCells (Value.slice none 0 0).cells k)[j]? = some (.slice p n c) := by
  have hz : (Builtin.zeroCells (Value.slice none 0 0).cells k).size = k := by
    rw [size_zeroCells]
    simp [Value.cells]
  have : (Builtin.zeroCells (Value.slice none 0 0).cells k)[j]? = some (.slice none 0 0) := by
    rw [Array.getElem?_eq_getElem (by omega)]
    simp [Builtin.zeroCells, Value.cells]
    rw [Nat.mod_one]
    rfl
  exact ⟨_, _, _, this⟩
theorem Try.infoNH : (Try.prog.info? 53).map (fun i => (i.zero, i.size, i.bytes)) = some (some (.slice none 0 0), 1, 24) := by kernel_rfl
/-- One number more is appended. -/
theorem run_appNH (w : World) (t ty : TypeId) (ht : Try.prog.underlying t = some (.slice 53)) {base : Nat} {v : Value} {Ls : List (List Int)} (h : NHd w base v Ls) (hbase : base ≤ w.heap.size) {g1 : Nat} {p : Option Addr} {n c : Nat} {zs : List Int} (hu : w.cell? ⟨g1, 0, none⟩ = some (.slice p n c)) (hz : Nums w p n c zs) (hl : Ls.length ≤ 2147483648) :
    ∃ v' w', (Builtin.append_ #[t, t] ty #[v, .slice (some ⟨g1, 0, none⟩) 1 1]).run Try.prog w = .ok v' w' ∧ NHd w' base v' (Ls ++ [zs]) ∧ w.grownBy w' v.ownBlock ∧ (v'.ownBlock = v.ownBlock ∨ v'.ownBlock = some w.heap.size) := by
  obtain ⟨i0, hi, hz0, hz1, hz2⟩ := info_parts Try.infoNH
  have hnews : ∀ j q, [Value.slice p n c][j]? = some q → w.cell? ((⟨g1, 0, none⟩ : Addr).add j) = some q := fun j q hj => by
    match j, hj with
    | 0, hj =>
      simp at hj
      subst hj
      rw [Addr.add_lit]
      exact hu
  have hone : ∀ q ∈ [Value.slice p n c], q.oneCell' = true := fun q hq => by
    simp at hq
    subst hq
    rfl
  -- the block that is new
  have fresh : ∀ (olds : List Value) (G : Nat), olds.length = Ls.length → Ls.length + 1 ≤ G → G ≤ maxLen → (∀ i, i < Ls.length → ∃ p n c, olds[i]? = some (.slice p n c) ∧ Nums w p n c (Ls.getD i [])) → ∀ row : Option Nat,
      NHd (w.drew.alloc (.cells (olds.toArray ++ [Value.slice p n c].toArray ++ Builtin.zeroCells (Value.slice none 0 0).cells (G - (Ls.length + 1))) 53)) base (.slice (some ⟨w.heap.size, 0, none⟩) (Ls.length + 1) G) (Ls ++ [zs]) ∧ w.grownBy (w.drew.alloc (.cells (olds.toArray ++ [Value.slice p n c].toArray ++ Builtin.zeroCells (Value.slice none 0 0).cells (G - (Ls.length + 1))) 53)) row := by
    intro olds G ho hG hGm hold row
    have hB : Below w.heap.size w (w.drew.alloc (.cells (olds.toArray ++ [Value.slice p n c].toArray ++ Builtin.zeroCells (Value.slice none 0 0).cells (G - (Ls.length + 1))) 53)) := (below_drewN (Below.refl w.heap.size w) 1).alloc (Nat.le_refl _) _
    have hat : ∀ i, i < Ls.length → (olds.toArray ++ [Value.slice p n c].toArray ++ Builtin.zeroCells (Value.slice none 0 0).cells (G - (Ls.length + 1)))[i]? = olds[i]? := fun i q => by
      rw [Array.getElem?_append_left (by simp; omega), Array.getElem?_append_left (by simp; omega)]
      simp
    have hla : (olds.toArray ++ [Value.slice p n c].toArray ++ Builtin.zeroCells (Value.slice none 0 0).cells (G - (Ls.length + 1)))[Ls.length]? = some (.slice p n c) := by
      rw [Array.getElem?_append_left (by simp; omega), Array.getElem?_append_right (by simp; omega)]
      simp [ho]
    have hsz : (olds.toArray ++ [Value.slice p n c].toArray ++ Builtin.zeroCells (Value.slice none 0 0).cells (G - (Ls.length + 1))).size = G := by
      rw [Array.size_append, Array.size_append, size_zeroCells]
      simp [Value.cells]
      omega
    refine ⟨.inr ⟨w.heap.size, G, _, by simp, hbase, heap_alloc_new w.drew _, by simp; omega, hGm, hsz, fun j hj => ?_, fun i hi' => ?_⟩, grown_of_below hB row⟩
    · by_cases q : j < Ls.length
      · obtain ⟨p', n', c', e, _⟩ := hold j q
        exact ⟨p', n', c', by rw [hat j q]; exact e⟩
      · by_cases q2 : j = Ls.length
        · subst q2
          exact ⟨p, n, c, hla⟩
        · rw [Array.getElem?_append_right (by simp; omega)]
          exact nh_zero _ _ (by simp; omega)
    · by_cases q : i < Ls.length
      · obtain ⟨p', n', c', e, hb'⟩ := hold i q
        exact ⟨p', n', c', by rw [hat i q]; exact e, by rw [nh_snoc q]; exact hb'.below hB⟩
      · obtain rfl : i = Ls.length := by simp at hi'; omega
        exact ⟨p, n, c, hla, by rw [nh_last]; exact hz.below hB⟩
  rcases h with ⟨rfl, rfl⟩ | ⟨b, cap, cur, rfl, h0, hg, hlc, hcm, hsz, hall, hc⟩
  · have hr := _root_.Go.run_append_nil (P := Try.prog) w t ty 53 i0 (.slice none 0 0) ht hi hz0 ⟨g1, 0, none⟩ 1 1 [.slice p n c] (by rw [hz1]; rfl) hnews (by decide) (by decide) (by rw [hz2]; decide)
    have hf := fresh [] (grownCap w 1 0 53) rfl (grownCap_ge w 1 0 _) (grownCap_le_maxLen w 1 0 _ (by unfold maxLen; omega)) (fun i hi => by simp at hi) none
    simp only [List.length_nil, Nat.zero_add, List.nil_append] at hf ⊢
    refine ⟨_, _, hr, ?_, ?_, .inr rfl⟩
    · simpa using hf.1
    · simpa [Value.ownBlock] using hf.2
  · by_cases hroom : Ls.length + 1 ≤ cap
    · have hr := _root_.Go.run_append_room_cells (P := Try.prog) w t ty 53 i0 ht hi b 0 Ls.length cap ⟨g1, 0, none⟩ 1 1 [.slice p n c] (by rw [hz1]; rfl) hnews hone hroom (fun j hj => by
        rw [cell_of_row w b _ cur _ _ hg, hz1]
        simp at hj
        subst hj
        rw [Array.getElem?_eq_getElem (by omega)]
        rfl) (fun j hj => frozen_of_row w b _ cur _ hg)
      rw [hz1, Nat.mul_one, Nat.zero_add] at hr
      have hgr := grown_set w b Ls.length (.slice p n c)
      have hhd := head_slices hg hsz hall
      refine ⟨_, _, hr, .inr ⟨b, cap, _, by simp, h0, heap_setCell_same w b Ls.length cur _ (.slice p n c) hg, by simpa using hroom, hcm, by simpa using hsz, fun j hj => ?_, fun i hi' => ?_⟩, hgr, .inl rfl⟩
      · by_cases q : Ls.length = j
        · subst q
          exact ⟨p, n, c, by rw [Array.getElem?_setIfInBounds, if_pos rfl, if_pos (by omega)]⟩
        · rw [Array.getElem?_setIfInBounds, if_neg q]
          exact hall j hj
      · by_cases q : i < Ls.length
        · obtain ⟨p', n', c', e, hb'⟩ := hc i q
          refine ⟨p', n', c', ?_, by rw [nh_snoc q]; exact hb'.head hgr hhd⟩
          rw [Array.getElem?_setIfInBounds, if_neg (by omega)]
          exact e
        · obtain rfl : i = Ls.length := by simp at hi'; omega
          refine ⟨p, n, c, ?_, by rw [nh_last]; exact hz.head hgr hhd⟩
          rw [Array.getElem?_setIfInBounds, if_pos rfl, if_pos (by omega)]
    · obtain ⟨olds, hol⟩ : ∃ olds, olds = cur.toList.take Ls.length := ⟨_, rfl⟩
      have h1 : olds.length = Ls.length := by rw [hol]; simp; omega
      have h2 : ∀ j, j < Ls.length → olds[j]? = cur[j]? := fun j hj => by
        rw [hol, List.getElem?_take, if_pos hj]
        simp
      have hr := _root_.Go.run_append_grow (P := Try.prog) w t ty 53 i0 (.slice none 0 0) ht hi hz0 ⟨b, 0, none⟩ Ls.length cap olds (by rw [hz1, h1, Nat.mul_one]) (fun j q hj => by
        have hjl : j < Ls.length := by rw [← h1]; exact (List.getElem?_eq_some_iff.1 hj).1
        rw [Addr.add_lit, Nat.zero_add, cell_of_row w b j cur _ _ hg, ← h2 j hjl]
        exact hj) ⟨g1, 0, none⟩ 1 1 [.slice p n c] (by rw [hz1]; rfl) hnews (by omega) (by omega) (growslice_fits (by omega) (by rw [hz2]; omega))
      have hf := fresh olds (grownCap w (Ls.length + 1) cap 53) h1 (grownCap_ge w _ cap _) (grownCap_le_maxLen w _ cap _ (by unfold maxLen; omega)) (fun i hi => by
        obtain ⟨p', n', c', e, hb'⟩ := hc i hi
        exact ⟨p', n', c', by rw [h2 i hi]; exact e, hb'⟩) (some b)
      exact ⟨_, _, hr, hf.1, hf.2, .inr rfl⟩
theorem NHd.low {w w' : World} {base : Nat} {v : Value} {ns : List (List Int)} (h : NHd w base v ns) (hg : w.grownBy w' v.ownBlock) (hb : base ≤ w.heap.size) : Below base w w' :=
  ⟨hg.os, hg.tape, hg.output, hg.size, fun k hk => hg.block k (Nat.lt_of_lt_of_le hk hb) (fun e => by have := (h.own k e.symm).2.1; omega)⟩
theorem wpList_appNH (w : World) {ops : Array Oper} {rest : List Oper} {o : Oper} {a : Act} {Q : Exit → Act → World → Prop} (hgd : o.guard = none) (s x : Operand) (t : TypeId)
    (ho : o.op = .call { callee := .builtin .append, args := #[s, x], argTypes := #[t, t] }) (ht : Try.prog.underlying t = some (.slice 53))
    (base : Nat) (v : Value) (ns : List (List Int)) (hs : a.eval s = v) (hown : NHd w base v ns) (g1 : Nat) (p : Option Addr) (n c : Nat) (zs : List Int) (hx : a.eval x = .slice (some ⟨g1, 0, none⟩) 1 1) (hc : w.cell? ⟨g1, 0, none⟩ = some (.slice p n c)) (hz : Nums w p n c zs)
    (hlen : ns.length < 1000000) (hbase : base ≤ w.heap.size)
    (h : ∀ v' w', NHd w' base v' (ns ++ [zs]) → w.grownBy w' v.ownBlock → wpList Try.prog ops Q rest (a.put o.dst v') w') : wpList Try.prog ops Q (o :: rest) a w := by
  obtain ⟨v', w', hr, h1, h2, -⟩ := run_appNH w t o.type ht hown hbase hc hz (by omega)
  exact Lib.wpList_append_run w hgd s x t t ho v _ hs hx v' w' hr (h v' w' h1 h2)
end Go.Proofs.Ytnbdbahfekneoab

namespace Go.Proofs.Ytnbdbahfekneoab
open Go.RowKit

set_option maxHeartbeats 800000 in
theorem x12num_any (n : Nat) (w : World) (hn : n < 9223372036854775808) : Calls Try.prog 15 #[.int .i64 (n : Int)] w fun e w' => CodeT n w e w' := by
  have hw : IntKind.u64.wrap (n : Int) = n := by simp [IntKind.wrap, IntKind.signed, IntKind.bits]; omega
  go_enter Try.func15, Try.ntmps15
  go_wp2_with fail
  refine (c9number_any n _ (by omega)).mono ?_
  rintro e w1 ⟨v, c, rfl, h1, h2, h3⟩
  go_wp2
  go_ret
  exact ⟨_, _, rfl, h1, h2, h3⟩
/-- The code of a natural number. -/
def CodeN (zs : List Int) (w : World) (e : Ending) (w' : World) : Prop := ∃ v c bs, e = .returned v ∧ BOwn w' w.heap.size v (c ++ bs) ∧ IsCode c bs.length ∧ ResBytes zs bs ∧ (bs.length ≤ 512 ∧ Digs 256 bs) ∧ Below w.heap.size w w'
set_option maxHeartbeats 800000 in
theorem x12nat_any (a : Option Addr) (la ca : Nat) (zs : List Int) (w : World) (h : Nums w a la ca zs) : Calls Try.prog 18 #[.slice a la ca] w fun e w' => CodeN zs w e w' := by
  go_enter Try.func18, Try.ntmps18
  go_wp2_with fail
  refine (bytes_any a la ca zs _ h).mono ?_
  rintro e w1 ⟨n, bs, rfl, h1, h2, h3, hb1⟩
  have hl := h1.hlen
  have hd := h1.digs
  have HC := (show Hid _ from c9bytes_any (some ⟨w.heap.size, 0, none⟩) n n bs w1 h1 (fun e => by cases e) (by omega))
  clear h h1
  go_wp2_with fail
  refine Calls.mono HC.out ?_
  rintro e w2 ⟨v, c, rfl, k1, k2, k3⟩
  have hB := bthen hb1 k3
  clear HC
  go_wp2
  go_ret
  exact ⟨_, _, _, rfl, k1.base hb1.size, k2, h2, ⟨by omega, hd⟩, hB⟩

set_option maxRecDepth 20000 in
set_option maxHeartbeats 3200000 in
theorem x12li_any (a : Option Addr) (l c : Nat) (ns : List Nat) (w : World) (h : Lsts w a l c (ints ns)) (hl : l ≤ 1000000) (hb : ∀ n, n ∈ ns → n ≤ 1073741824) :
    Calls Try.prog 16 #[.slice a l c, .func (.func 15) #[] #[]] w fun e w' => ∃ v ys, e = .returned v ∧ BOwn w' w.heap.size v ys ∧ IsLst ns ys ∧ Below w.heap.size w w' := by
  have hlen := h.hlen
  rw [ints_len] at hlen
  have hcap := h.hcap
  have hmax := h.hmax
  unfold maxLen at hmax
  have HL : Hid (ns.length = l ∧ ∀ n, n ∈ ns → n ≤ 1073741824) := ⟨hlen, hb⟩
  have HX : Hid (Lsts w a l c (ints ns)) := h
  have hcf := Try.call15
  clear h hlen hb
  go_enter Try.func16, Try.ntmps16
  go_wp2_with fail
  refine (x12num_any l _ (by omega)).mono ?_
  rintro e w1 ⟨v, c0, rfl, h1, h2, h3⟩
  have hc0 := code_10 h2 (by omega)
  have HC : Hid (IsCode c0 ns.length) := by show IsCode _ _; rw [HL.out.1]; exact h2
  clear h2
  go_wp2
  go_loopw [5, 13] (fun v3 v4 wr => ∃ (k : Nat) (out : List Int), v4 = .int .i64 k ∧ k ≤ l ∧ BOwn wr w.heap.size v3 (c0 ++ out) ∧ Hid (CodesOf (ns.take k) out) ∧ Below w.heap.size w wr) (fun _ v4 _ => l - (intOf v4).toNat)
  case atStart => exact ⟨0, [], rfl, Nat.zero_le _, by rw [List.append_nil]; exact h1, (rfl : CodesOf [] []), h3⟩
  case round =>
    clear h1 h3
    obtain ⟨k, out, rfl, hk, hown, HO, hbr⟩ := hrel
    by_cases hlt : k < l
    · have hlti : (k : Int) < (l : Int) := by omega
      have hk0 : (0 : Int) ≤ (k : Int) := by omega
      obtain ⟨b, off, rfl, hcl⟩ := (HX.out.below hbr).cells (by omega)
      have hx := hcl k hlt
      rw [ints_get] at hx
      obtain ⟨n, hn⟩ : ∃ n, n = ns.getD k 0 := ⟨_, rfl⟩
      rw [← hn] at hx
      have hkn : k < ns.length := by rw [HL.out.1]; exact hlt
      have hnb : n ≤ 1073741824 := by rw [hn]; exact HL.out.2 _ (by simp [List.getD, hkn])
      have hol : out.length ≤ 10 * l := by
        have := codes_len HO.out (fun m hm => by have := HL.out.2 m (List.mem_of_mem_take hm); omega)
        simp at this
        omega
      have HN : Hid (∀ c, IsCode c n → CodesOf (ns.take (k + 1)) (out ++ c)) := fun c hc => by
        rw [take_more hkn, ← hn]
        exact HO.out.snoc hc
      clear HO hcl hn hkn
      have hsz := hbr.size
      go_wp2_with fail
      refine (x12num_any n _ (by omega)).mono ?_
      rintro e w2 ⟨v2, c2, rfl, k1, k2, k3⟩
      obtain ⟨p2, l2, q2, rfl, hB2, -, nn2⟩ := k1.fresh k2.digs
      have hc2 := code_10 k2 (by omega)
      have hl2 := hB2.hlen
      have hown2 := own9 hown k3
      have hb2 := hbr.trans (k3.mono hsz)
      have HK : Hid (CodesOf (ns.take (k + 1)) (out ++ c2)) := HN.out c2 k2
      clear hown hbr k1 k2 k3 HN
      go_wp2_with (at_builtin; refine wpList_appBW _ rfl _ _ 32 rfl Try.underlying32 w.heap.size _ (c0 ++ out) rfl hown2 p2 l2 q2 c2 rfl hB2 (nil9 nn2) ?c1 w ?c2 hb2 ?_)
      case c1 => simp; omega
      case c2 => exact hb2.size
      intro v' w3 hown3 hb3 _
      clear hown2 hb2 hB2 nn2
      go_wp2
      go_roundw
      case rel => exact ⟨k + 1, out ++ c2, by go_num, by omega, hown3, HK, hb3⟩
      case measure => simp [intOf]; omega
    · obtain rfl : k = l := by omega
      have HF : Hid (IsLst ns (c0 ++ out)) := ⟨c0, out, HC.out, by have := HO.out; rw [← HL.out.1, List.take_length] at this; exact this, rfl⟩
      clear HO HX
      go_wp2
      go_ret
      exact ⟨_, _, rfl, hown, HF.out, hbr⟩

/-- What a list of natural numbers makes. -/
def NatsT (nats : List (List Int)) (w : World) (e : Ending) (w' : World) : Prop := ∃ v ys bss, e = .returned v ∧ BOwn w' w.heap.size v ys ∧ (NatsB nats bss ∧ IsBlobs bss ys) ∧ (Digs 256 ys ∧ ys.length ≤ 10 + nats.length * 530) ∧ Below w.heap.size w w'
theorem blobs_digs12 : ∀ {l : List (List Int)} {ys : List Int}, BlobsOf l ys → (∀ b, b ∈ l → Digs 256 b) → Digs 256 ys
  | [], ys, h, _ => by
    have e : ys = [] := h
    rw [e]
    intro x hx
    cases hx
  | b :: l, ys, ⟨c, r, h1, h2, e⟩, hb => by
    rw [e]
    exact h1.digs.app9 ((hb b (List.mem_cons_self ..)).app9 (blobs_digs12 h2 (fun d hd => hb d (List.mem_cons_of_mem _ hd))))
set_option maxRecDepth 20000 in
set_option maxHeartbeats 3200000 in
theorem x12ln_any (a : Option Addr) (l c : Nat) (nats : List (List Int)) (w : World) (h : NRow w a l c nats) (hl : l ≤ 1000000) :
    Calls Try.prog 17 #[.slice a l c, .func (.func 18) #[] #[]] w fun e w' => NatsT nats w e w' := by
  have hlen := h.hlen
  have hcap := h.hcap
  have hmax := h.hmax
  unfold maxLen at hmax
  have HL : Hid (nats.length = l) := hlen
  have HX : Hid (NRow w a l c nats) := h
  have hcf := Try.call18
  clear h hlen
  go_enter Try.func17, Try.ntmps17
  go_wp2_with fail
  refine (x12num_any l _ (by omega)).mono ?_
  rintro e w1 ⟨v, c0, rfl, h1, h2, h3⟩
  have hc0 := code_10 h2 (by omega)
  have HC : Hid (IsCode c0 nats.length) := by show IsCode _ _; rw [HL.out]; exact h2
  clear h2
  go_wp2
  go_loopw [5, 13] (fun v3 v4 wr => ∃ (k : Nat) (bl : List Int), v4 = .int .i64 k ∧ k ≤ l ∧ BOwn wr w.heap.size v3 (c0 ++ bl) ∧ bl.length ≤ k * 530 ∧ Hid (∃ bss, bss.length = k ∧ (∀ j, j < k → ResBytes (nats.getD j []) (bss.getD j [])) ∧ BlobsOf bss bl ∧ ∀ d, d ∈ bss → Digs 256 d) ∧ Below w.heap.size w wr) (fun _ v4 _ => l - (intOf v4).toNat)
  case atStart => exact ⟨0, [], rfl, Nat.zero_le _, by rw [List.append_nil]; exact h1, Nat.le_refl _, ⟨[], rfl, fun j hj => absurd hj (Nat.not_lt_zero _), rfl, fun d hd => absurd hd (by simp)⟩, h3⟩
  case round =>
    clear h1 h3
    obtain ⟨k, bl, rfl, hk, hown, hbl, HO, hbr⟩ := hrel
    by_cases hlt : k < l
    · have hlti : (k : Int) < (l : Int) := by omega
      have hk0 : (0 : Int) ≤ (k : Int) := by omega
      obtain ⟨b, off, rfl, hcl⟩ := (HX.out.below hbr).cells (by omega)
      obtain ⟨p, q, cq, hx, hN⟩ := hcl k hlt
      clear hcl
      have hsz := hbr.size
      have HC2 := (show Hid _ from x12nat_any p q cq _ wr hN)
      clear hN
      go_wp2_with fail
      refine Calls.mono HC2.out ?_
      rintro e w2 ⟨v2, c2, bs, rfl, k1, k2, k3, ⟨k4, k5⟩, k6⟩
      obtain ⟨p2, l2, q2, rfl, hB2, -, nn2⟩ := k1.fresh (k2.digs.app9 k5)
      have hc2 := code_10 k2 (by omega)
      have hl2 := hB2.hlen
      rw [List.length_append] at hl2
      have hown2 := own9 hown k6
      have hb2 := hbr.trans (k6.mono hsz)
      have HK : Hid (∃ bss, bss.length = k + 1 ∧ (∀ j, j < k + 1 → ResBytes (nats.getD j []) (bss.getD j [])) ∧ BlobsOf bss (bl ++ (c2 ++ bs)) ∧ ∀ d, d ∈ bss → Digs 256 d) := by
        obtain ⟨bss, f1, f2, f3, f4⟩ := HO.out
        refine ⟨bss ++ [bs], by simp [f1], fun j hj => ?_, f3.snoc k2, fun d hd => ?_⟩
        · by_cases e : j = k
          · subst e
            rw [show (bss ++ [bs]).getD j [] = bs by rw [← f1]; simp [List.getD]]
            exact k3
          · rw [show (bss ++ [bs]).getD j [] = bss.getD j [] by unfold List.getD; rw [List.getElem?_append_left (by omega)]]
            exact f2 j (by omega)
        · rcases List.mem_append.1 hd with e | e
          · exact f4 d e
          · simp at e
            rw [e]
            exact k5
      have hmul : (k + 1) * 530 = k * 530 + 530 := by omega
      have hbl9 : (bl ++ (c2 ++ bs)).length ≤ (k + 1) * 530 := by simp only [List.length_append]; omega
      have hPb : (c0 ++ bl).length ≤ 540000000 := by rw [List.length_append]; omega
      clear hown hbr k1 k2 k3 k5 k6 HO HC2
      go_wp2_with (at_builtin; refine wpList_appBW _ rfl _ _ 32 rfl Try.underlying32 w.heap.size _ _ rfl hown2 p2 l2 q2 (c2 ++ bs) rfl hB2 (nil9 nn2) ?c1 w ?c2 hb2 ?_)
      case c1 => omega
      case c2 => exact hb2.size
      intro v' w3 hown3 hb3 _
      clear hown2 hb2 hB2 nn2
      go_wp2
      go_roundw
      case rel => exact ⟨k + 1, bl ++ (c2 ++ bs), by go_num, by omega, by simpa using hown3, hbl9, HK, hb3⟩
      case measure => simp [intOf]; omega
    · obtain rfl : k = l := by omega
      have HF : Hid (∃ bss, (NatsB nats bss ∧ IsBlobs bss (c0 ++ bl)) ∧ (Digs 256 (c0 ++ bl) ∧ (c0 ++ bl).length ≤ 10 + nats.length * 530)) := by
        obtain ⟨bss, f1, f2, f3, f4⟩ := HO.out
        refine ⟨bss, ⟨⟨by rw [f1, HL.out], fun j hj => f2 j (by rw [← HL.out]; exact hj)⟩, c0, bl, by rw [f1, ← HL.out]; exact HC.out, f3, rfl⟩, HC.out.digs.app9 (blobs_digs12 f3 f4), ?_⟩
        rw [List.length_append, HL.out]
        omega
      clear HO HX
      go_wp2
      go_ret
      obtain ⟨bss, f1, f2⟩ := HF.out
      exact ⟨_, _, bss, rfl, hown, f1, f2, hbr⟩
end Go.Proofs.Ytnbdbahfekneoab

namespace Go.Proofs.Ytnbdbahfekneoab
open Go.RowKit

/-- What Encode makes; no message of few natural numbers is too long. -/
def WireT2 (k a b c : Int) (ids rows : List Int) (nats : List (List Int)) (w : World) (e : Ending) (w' : World) : Prop := ∃ a' l' c' ys err, e = .returned (.tuple #[.slice a' l' c', .int .i64 err]) ∧ Byts w' a' l' c' ys ∧ ResWire k a b c ids rows nats ys err ∧ ((a' = none → c' = 0) ∧ ∀ ad, a' = some ad → 0 < l' → w.heap.size ≤ ad.block ∧ IsB w' ad.block) ∧ Below w.heap.size w w' ∧ (RightM k a b c ids rows nats → nats.length ≤ 1000 → err = 0)
set_option maxRecDepth 100000 in
set_option maxHeartbeats 12800000 in
theorem x12enc_any (k a b c : Int) (pi : Option Addr) (li ci : Nat) (pr : Option Addr) (lr cr : Nat) (pn : Option Addr) (ln cn : Nat) (ids rows : List Int) (nats : List (List Int)) (w : World) (H : Msg3 w pi li ci pr lr cr pn ln cn ids rows nats) :
    Calls Try.prog 5 #[.agg #[.int .i64 k, .int .i64 a, .int .i64 b, .int .i64 c, .slice pi li ci, .slice pr lr cr, .slice pn ln cn]] w fun e w' => WireT2 k a b c ids rows nats w e w' := by
  have hV := balloc w (.cells #[.int .i64 k, .int .i64 a, .int .i64 b, .int .i64 c, .slice pi li ci, .slice pr lr cr, .slice pn ln cn] 31)
  have hC := MsgAt.new w k a b c pi pr pn li ci lr cr ln cn
  obtain ⟨V0, hVe⟩ : ∃ V0, V0 = w.alloc (.cells #[.int .i64 k, .int .i64 a, .int .i64 b, .int .i64 c, .slice pi li ci, .slice pr lr cr, .slice pn ln cn] 31) := ⟨_, rfl⟩
  rw [← hVe] at hV hC
  have HVe : Hid (V0 = w.alloc (.cells #[.int .i64 k, .int .i64 a, .int .i64 b, .int .i64 c, .slice pi li ci, .slice pr lr cr, .slice pn ln cn] 31)) := hVe
  replace H := H.below hV
  obtain ⟨G, hG⟩ : ∃ G, G = w.heap.size := ⟨_, rfl⟩
  rw [← hG] at hC
  have HG : Hid (G = w.heap.size) := hG
  clear hVe hG
  obtain ⟨⟨c0, c1, c2, c3, c4, c5, c6⟩, -⟩ := hC.cells
  have HO := (show Hid _ from x12right_any k a b c pi li ci pr lr cr pn ln cn ids rows nats V0 H)
  go_enter Try.func5, Try.ntmps5
  go_upto_region 1 with fail
  rw [← HVe.out, ← HG.out]
  go_wp2_with fail
  refine Calls.mono HO.out ?_
  rintro e V ⟨r, rfl, hr, hb1⟩
  have hB1 := bthen hV hb1
  replace H := H.below hb1
  replace hC := hC.kept (hb1.block _ hC.lt)
  clear c0 c1 c2 c3 c4 c5 c6 HO hb1 hV
  cases r with
  | false =>
    have HF : Hid (ResWire k a b c ids rows nats [] 16) := .inr ⟨fun h => (by have := hr.2 h.1; cases this), rfl, rfl⟩
    have HNR : Hid (RightM k a b c ids rows nats → nats.length ≤ 1000 → (16 : Int) = 0) := fun q => (by cases hr.2 q)
    clear H hC hr
    go_wp2
    go_ret2
    exact ⟨none, 0, 0, [], 16, rfl, Byts.nil _, HF.out, ⟨fun _ => rfl, fun _ e => (by cases e)⟩, hB1, HNR.out⟩
  | true =>
    have hM := hr.1 rfl
    have HM : Hid (RightM k a b c ids rows nats) := hM
    have p1 := hM.p1
    have p4 := hM.p4
    have hI := H.ids
    have hR := H.rows
    have hN := H.nats
    have e1 := hI.hlen
    have e2 := hR.hlen
    have e3 := hN.hlen
    obtain ⟨K, rfl⟩ : ∃ K : Nat, k = (K : Int) := ⟨k.toNat, by omega⟩
    obtain ⟨A, rfl⟩ : ∃ A : Nat, a = (A : Int) := ⟨a.toNat, by omega⟩
    obtain ⟨B, rfl⟩ : ∃ B : Nat, b = (B : Int) := ⟨b.toNat, by omega⟩
    obtain ⟨C, rfl⟩ : ∃ C : Nat, c = (C : Int) := ⟨c.toNat, by omega⟩
    have hkb : K ≤ 1073741824 ∧ A ≤ 1073741824 ∧ B ≤ 1073741824 ∧ C ≤ 1073741824 := by omega
    have hll : li ≤ 16384 ∧ lr ≤ 16384 ∧ ln ≤ 16384 := by omega
    rw [← nat0_ints hM.p6] at hI
    rw [← nat0_ints (xs := rows) (fun i hi => ⟨(hM.p7 i hi).1, (hM.p7 i hi).2.1⟩)] at hR
    have bI := nat0_le hM.p6
    have bR := nat0_le (xs := rows) (fun i hi => ⟨(hM.p7 i hi).1, (hM.p7 i hi).2.1⟩)
    have HLI : Hid (((nat0 ids).length = li ∧ (nat0 rows).length = lr ∧ nats.length = ln) ∧ ((∀ n, n ∈ nat0 ids → n ≤ 1073741824) ∧ ∀ n, n ∈ nat0 rows → n ≤ 1073741824)) := ⟨⟨by rw [nat0_len]; exact e1, by rw [nat0_len]; exact e2, e3⟩, bI, bR⟩
    have HLS : Hid (Lsts V pi li ci (ints (nat0 ids)) ∧ Lsts V pr lr cr (ints (nat0 rows)) ∧ NRow V pn ln cn nats) := ⟨hI, hR, hN⟩
    obtain ⟨⟨c0, c1, c2, c3, c4, c5, c6⟩, -⟩ := hC.cells
    have HC0 : Hid (MsgAt V G K A B C pi li ci pr lr cr pn ln cn) := hC
    clear hM hr H hI hR hN e1 e2 e3 p1 p4 bI bR hC
    have KEEP : ∀ {wx w' : World}, Below V.heap.size V wx → Below wx.heap.size wx w' → (w'.cell? ⟨G, 0, none⟩ = some (.int .i64 (K : Int)) ∧ w'.cell? ⟨G, 1, none⟩ = some (.int .i64 (A : Int)) ∧ w'.cell? ⟨G, 2, none⟩ = some (.int .i64 (B : Int)) ∧ w'.cell? ⟨G, 3, none⟩ = some (.int .i64 (C : Int)) ∧ w'.cell? ⟨G, 4, none⟩ = some (.slice pi li ci) ∧ w'.cell? ⟨G, 5, none⟩ = some (.slice pr lr cr) ∧ w'.cell? ⟨G, 6, none⟩ = some (.slice pn ln cn)) ∧ Hid (Below wx.heap.size wx w') ∧ Hid (Below V.heap.size V w') := fun hx hb => ⟨⟨bkeep (bthen hx hb) c0 rfl, bkeep (bthen hx hb) c1 rfl, bkeep (bthen hx hb) c2 rfl, bkeep (bthen hx hb) c3 rfl, bkeep (bthen hx hb) c4 rfl, bkeep (bthen hx hb) c5 rfl, bkeep (bthen hx hb) c6 rfl⟩, hb, bthen hx hb⟩
    have HNK : Hid (∀ wx : World, Below V.heap.size V wx → Calls Try.prog 15 #[.int .i64 (K : Int)] wx fun e w' => ∃ va vl vc cd, e = .returned (.slice va vl vc) ∧ Hid (PB w' va vl vc cd) ∧ Hid (IsCode cd K) ∧ (w'.cell? ⟨G, 0, none⟩ = some (.int .i64 (K : Int)) ∧ w'.cell? ⟨G, 1, none⟩ = some (.int .i64 (A : Int)) ∧ w'.cell? ⟨G, 2, none⟩ = some (.int .i64 (B : Int)) ∧ w'.cell? ⟨G, 3, none⟩ = some (.int .i64 (C : Int)) ∧ w'.cell? ⟨G, 4, none⟩ = some (.slice pi li ci) ∧ w'.cell? ⟨G, 5, none⟩ = some (.slice pr lr cr) ∧ w'.cell? ⟨G, 6, none⟩ = some (.slice pn ln cn)) ∧ Hid (Below wx.heap.size wx w') ∧ Hid (Below V.heap.size V w')) := by
      intro wx hbx
      refine (x12num_any K wx (by omega)).mono ?_
      rintro e w' ⟨v, cd, rfl, ho, hc, hb⟩
      obtain ⟨va, vl, vc, rfl, hp⟩ := PB.own ho hc.digs
      exact ⟨_, _, _, cd, rfl, hp, hc, KEEP hbx hb⟩
    have HNA : Hid (∀ wx : World, Below V.heap.size V wx → Calls Try.prog 15 #[.int .i64 (A : Int)] wx fun e w' => ∃ va vl vc cd, e = .returned (.slice va vl vc) ∧ Hid (PB w' va vl vc cd) ∧ Hid (IsCode cd A) ∧ (w'.cell? ⟨G, 0, none⟩ = some (.int .i64 (K : Int)) ∧ w'.cell? ⟨G, 1, none⟩ = some (.int .i64 (A : Int)) ∧ w'.cell? ⟨G, 2, none⟩ = some (.int .i64 (B : Int)) ∧ w'.cell? ⟨G, 3, none⟩ = some (.int .i64 (C : Int)) ∧ w'.cell? ⟨G, 4, none⟩ = some (.slice pi li ci) ∧ w'.cell? ⟨G, 5, none⟩ = some (.slice pr lr cr) ∧ w'.cell? ⟨G, 6, none⟩ = some (.slice pn ln cn)) ∧ Hid (Below wx.heap.size wx w') ∧ Hid (Below V.heap.size V w')) := by
      intro wx hbx
      refine (x12num_any A wx (by omega)).mono ?_
      rintro e w' ⟨v, cd, rfl, ho, hc, hb⟩
      obtain ⟨va, vl, vc, rfl, hp⟩ := PB.own ho hc.digs
      exact ⟨_, _, _, cd, rfl, hp, hc, KEEP hbx hb⟩
    have HNB : Hid (∀ wx : World, Below V.heap.size V wx → Calls Try.prog 15 #[.int .i64 (B : Int)] wx fun e w' => ∃ va vl vc cd, e = .returned (.slice va vl vc) ∧ Hid (PB w' va vl vc cd) ∧ Hid (IsCode cd B) ∧ (w'.cell? ⟨G, 0, none⟩ = some (.int .i64 (K : Int)) ∧ w'.cell? ⟨G, 1, none⟩ = some (.int .i64 (A : Int)) ∧ w'.cell? ⟨G, 2, none⟩ = some (.int .i64 (B : Int)) ∧ w'.cell? ⟨G, 3, none⟩ = some (.int .i64 (C : Int)) ∧ w'.cell? ⟨G, 4, none⟩ = some (.slice pi li ci) ∧ w'.cell? ⟨G, 5, none⟩ = some (.slice pr lr cr) ∧ w'.cell? ⟨G, 6, none⟩ = some (.slice pn ln cn)) ∧ Hid (Below wx.heap.size wx w') ∧ Hid (Below V.heap.size V w')) := by
      intro wx hbx
      refine (x12num_any B wx (by omega)).mono ?_
      rintro e w' ⟨v, cd, rfl, ho, hc, hb⟩
      obtain ⟨va, vl, vc, rfl, hp⟩ := PB.own ho hc.digs
      exact ⟨_, _, _, cd, rfl, hp, hc, KEEP hbx hb⟩
    have HNC : Hid (∀ wx : World, Below V.heap.size V wx → Calls Try.prog 15 #[.int .i64 (C : Int)] wx fun e w' => ∃ va vl vc cd, e = .returned (.slice va vl vc) ∧ Hid (PB w' va vl vc cd) ∧ Hid (IsCode cd C) ∧ (w'.cell? ⟨G, 0, none⟩ = some (.int .i64 (K : Int)) ∧ w'.cell? ⟨G, 1, none⟩ = some (.int .i64 (A : Int)) ∧ w'.cell? ⟨G, 2, none⟩ = some (.int .i64 (B : Int)) ∧ w'.cell? ⟨G, 3, none⟩ = some (.int .i64 (C : Int)) ∧ w'.cell? ⟨G, 4, none⟩ = some (.slice pi li ci) ∧ w'.cell? ⟨G, 5, none⟩ = some (.slice pr lr cr) ∧ w'.cell? ⟨G, 6, none⟩ = some (.slice pn ln cn)) ∧ Hid (Below wx.heap.size wx w') ∧ Hid (Below V.heap.size V w')) := by
      intro wx hbx
      refine (x12num_any C wx (by omega)).mono ?_
      rintro e w' ⟨v, cd, rfl, ho, hc, hb⟩
      obtain ⟨va, vl, vc, rfl, hp⟩ := PB.own ho hc.digs
      exact ⟨_, _, _, cd, rfl, hp, hc, KEEP hbx hb⟩
    have HCo : Hid (∀ (wx : World) (g : Nat) (a0 : Option Addr) (l0 k0 : Nat) (a1 : Option Addr) (l1 k1 : Nat) (a2 : Option Addr) (l2 k2 : Nat) (a3 : Option Addr) (l3 k3 : Nat) (z0 z1 z2 z3 : List Int), Hid (IsCode z0 K) → Hid (IsCode z1 A) → Hid (IsCode z2 B) → Hid (IsCode z3 C) → wx.cell? ⟨g, 0, none⟩ = some (.slice a0 l0 k0) → wx.cell? ⟨g, 1, none⟩ = some (.slice a1 l1 k1) → wx.cell? ⟨g, 2, none⟩ = some (.slice a2 l2 k2) → wx.cell? ⟨g, 3, none⟩ = some (.slice a3 l3 k3) → PB wx a0 l0 k0 z0 → PB wx a1 l1 k1 z1 → PB wx a2 l2 k2 z2 → PB wx a3 l3 k3 z3 → Below V.heap.size V wx → Calls Try.prog 14 #[.slice (some ⟨g, 0, none⟩) 4 4] wx fun e w' => ∃ v M, e = .returned v ∧ Hid (BOwn w' V.heap.size v M ∧ CodesOf [K, A, B, C] M ∧ (M.length ≤ 40 ∧ Digs 256 M)) ∧ (w'.cell? ⟨G, 0, none⟩ = some (.int .i64 (K : Int)) ∧ w'.cell? ⟨G, 1, none⟩ = some (.int .i64 (A : Int)) ∧ w'.cell? ⟨G, 2, none⟩ = some (.int .i64 (B : Int)) ∧ w'.cell? ⟨G, 3, none⟩ = some (.int .i64 (C : Int)) ∧ w'.cell? ⟨G, 4, none⟩ = some (.slice pi li ci) ∧ w'.cell? ⟨G, 5, none⟩ = some (.slice pr lr cr) ∧ w'.cell? ⟨G, 6, none⟩ = some (.slice pn ln cn)) ∧ Hid (Below wx.heap.size wx w') ∧ Hid (Below V.heap.size V w')) := by
      rintro wx g a0 l0 k0 a1 l1 k1 a2 l2 k2 a3 l3 k3 z0 z1 z2 z3 q0 q1 q2 q3 y0 y1 y2 y3 p0 p1 p2 p3 hbx
      have hcat : catL [(a0, l0, k0, z0), (a1, l1, k1, z1), (a2, l2, k2, z2), (a3, l3, k3, z3)] = z0 ++ (z1 ++ (z2 ++ z3)) := by simp [catL]
      have hP : Parts10 wx g [(a0, l0, k0, z0), (a1, l1, k1, z1), (a2, l2, k2, z2), (a3, l3, k3, z3)] := by
        intro i p hp
        match i, hp with
        | 0, hp => cases hp; exact ⟨y0, p0.1, p0.2⟩
        | 1, hp => cases hp; exact ⟨y1, p1.1, p1.2⟩
        | 2, hp => cases hp; exact ⟨y2, p2.1, p2.2⟩
        | 3, hp => cases hp; exact ⟨y3, p3.1, p3.2⟩
        | i + 4, hp => simp at hp
      have l0' := code_10 q0.out (by omega)
      have l1' := code_10 q1.out (by omega)
      have l2' := code_10 q2.out (by omega)
      have l3' := code_10 q3.out (by omega)
      have hle : (z0 ++ (z1 ++ (z2 ++ z3))).length ≤ 40 := by simp only [List.length_append]; omega
      have hpos : 0 < (z0 ++ (z1 ++ (z2 ++ z3))).length := by
        have := q0.out.nonempty
        cases z0 with
        | nil => exact absurd rfl this
        | cons x z => simp
      refine (concat10_any g 4 _ 4 wx rfl (Nat.le_refl _) (by decide) hP (by rw [hcat]; exact hpos) (by rw [hcat]; omega)).mono ?_
      rintro e w' ⟨v, rfl, ho, hb⟩
      rw [hcat] at ho
      exact ⟨v, _, rfl, ⟨ho.base hbx.size, ⟨z0, z1 ++ (z2 ++ z3), q0.out, ⟨z1, z2 ++ z3, q1.out, ⟨z2, z3, q2.out, ⟨z3, [], q3.out, rfl, by simp⟩, rfl⟩, rfl⟩, rfl⟩, hle, q0.out.digs.app9 (q1.out.digs.app9 (q2.out.digs.app9 q3.out.digs))⟩, KEEP hbx hb⟩
    have HRB : Hid (Below V.heap.size V V) := Below.refl _ _
    clear KEEP
    go_wp2_with fail
    go_cut [4] (fun pv wx => ∃ M, BOwn wx V.heap.size pv M ∧ Hid (CodesOf [K, A, B, C] M ∧ (M.length ≤ 40 ∧ Digs 256 M)) ∧ Below V.heap.size V wx)
    case first =>
      clear hB1 hkb hll
      have ne0 := World.new_ne V ⟨G, 0, none⟩ c0
      go_region_held3 (fun w' => (w'.cell? ⟨G, 0, none⟩ = some (.int .i64 (K : Int)) ∧ w'.cell? ⟨G, 1, none⟩ = some (.int .i64 (A : Int)) ∧ w'.cell? ⟨G, 2, none⟩ = some (.int .i64 (B : Int)) ∧ w'.cell? ⟨G, 3, none⟩ = some (.int .i64 (C : Int)) ∧ w'.cell? ⟨G, 4, none⟩ = some (.slice pi li ci) ∧ w'.cell? ⟨G, 5, none⟩ = some (.slice pr lr cr) ∧ w'.cell? ⟨G, 6, none⟩ = some (.slice pn ln cn))) (first | go_keep | exact ⟨n70, n71, n72, n73, n74, n75, n76⟩ | exact ⟨n60, n61, n62, n63, n64, n65, n66⟩ | exact ⟨n50, n51, n52, n53, n54, n55, n56⟩ | exact ⟨n40, n41, n42, n43, n44, n45, n46⟩ | exact ⟨n30, n31, n32, n33, n34, n35, n36⟩)
        (first
        | (go_at_call 15; with_reducible refine Calls.mono (HNK.out _ ?_) ?_; (focus (repeat (first | exact HRB.out | exact hB3.out | exact hB4.out | exact hB5.out | exact hB6.out | refine bdrX' ?_ | refine bgrX ?_ _))); rintro e w3 ⟨a3, l3, k3, z3, rfl, hP3, q3, ⟨n30, n31, n32, n33, n34, n35, n36⟩, hb3, hB3⟩; have ne3 := World.new_ne w3 ⟨G, 0, none⟩ n30)
        | (go_at_call 15; with_reducible refine Calls.mono (HNA.out _ ?_) ?_; (focus (repeat (first | exact HRB.out | exact hB3.out | exact hB4.out | exact hB5.out | exact hB6.out | refine bdrX' ?_ | refine bgrX ?_ _))); rintro e w4 ⟨a4, l4, k4, z4, rfl, hP4, q4, ⟨n40, n41, n42, n43, n44, n45, n46⟩, hb4, hB4⟩; have ne4 := World.new_ne w4 ⟨G, 0, none⟩ n40)
        | (go_at_call 15; with_reducible refine Calls.mono (HNB.out _ ?_) ?_; (focus (repeat (first | exact HRB.out | exact hB3.out | exact hB4.out | exact hB5.out | exact hB6.out | refine bdrX' ?_ | refine bgrX ?_ _))); rintro e w5 ⟨a5, l5, k5, z5, rfl, hP5, q5, ⟨n50, n51, n52, n53, n54, n55, n56⟩, hb5, hB5⟩; have ne5 := World.new_ne w5 ⟨G, 0, none⟩ n50)
        | (go_at_call 15; with_reducible refine Calls.mono (HNC.out _ ?_) ?_; (focus (repeat (first | exact HRB.out | exact hB3.out | exact hB4.out | exact hB5.out | exact hB6.out | refine bdrX' ?_ | refine bgrX ?_ _))); rintro e w6 ⟨a6, l6, k6, z6, rfl, hP6, q6, ⟨n60, n61, n62, n63, n64, n65, n66⟩, hb6, hB6⟩; have ne6 := World.new_ne w6 ⟨G, 0, none⟩ n60)
        | (go_at_call 14; with_reducible refine Calls.mono (HCo.out _ _ a3 l3 k3 a4 l4 k4 a5 l5 k5 a6 l6 k6 z3 z4 z5 z6 q3 q4 q5 q6 ?_ ?_ ?_ ?_ ?_ ?_ ?_ ?_ ?_) ?_; (focus (first | exact cell4_0 _ _ _ _ _ _ | exact cell4s_0 _ _ _ _ _ _ _)); (focus (first | exact cell4_1 _ _ _ _ _ _ | exact cell4s_1 _ _ _ _ _ _ _)); (focus (first | exact cell4_2 _ _ _ _ _ _ | exact cell4s_2 _ _ _ _ _ _ _)); (focus (first | exact cell4_3 _ _ _ _ _ _ | exact cell4s_3 _ _ _ _ _ _ _)); (focus (repeat (first | with_reducible exact hP3.out | with_reducible exact hP4.out | with_reducible exact hP5.out | with_reducible exact hP6.out | with_reducible refine PB.drew ?_ | with_reducible refine PB.grow ?_ _ | with_reducible refine PB.below ?_ hb3.out | with_reducible refine PB.below ?_ hb4.out | with_reducible refine PB.below ?_ hb5.out | with_reducible refine PB.below ?_ hb6.out))); (focus (repeat (first | with_reducible exact hP3.out | with_reducible exact hP4.out | with_reducible exact hP5.out | with_reducible exact hP6.out | with_reducible refine PB.drew ?_ | with_reducible refine PB.grow ?_ _ | with_reducible refine PB.below ?_ hb3.out | with_reducible refine PB.below ?_ hb4.out | with_reducible refine PB.below ?_ hb5.out | with_reducible refine PB.below ?_ hb6.out))); (focus (repeat (first | with_reducible exact hP3.out | with_reducible exact hP4.out | with_reducible exact hP5.out | with_reducible exact hP6.out | with_reducible refine PB.drew ?_ | with_reducible refine PB.grow ?_ _ | with_reducible refine PB.below ?_ hb3.out | with_reducible refine PB.below ?_ hb4.out | with_reducible refine PB.below ?_ hb5.out | with_reducible refine PB.below ?_ hb6.out))); (focus (repeat (first | with_reducible exact hP3.out | with_reducible exact hP4.out | with_reducible exact hP5.out | with_reducible exact hP6.out | with_reducible refine PB.drew ?_ | with_reducible refine PB.grow ?_ _ | with_reducible refine PB.below ?_ hb3.out | with_reducible refine PB.below ?_ hb4.out | with_reducible refine PB.below ?_ hb5.out | with_reducible refine PB.below ?_ hb6.out))); (focus (repeat (first | exact HRB.out | exact hB3.out | exact hB4.out | exact hB5.out | exact hB6.out | refine bdrX' ?_ | refine bgrX ?_ _))); rintro e w7 ⟨v7, M7, rfl, hO7, ⟨n70, n71, n72, n73, n74, n75, n76⟩, hb7, hB7⟩))
      all_goals
        clear HNK HNA HNB HNC HCo HRB
        go_wp2_with fail
        go_meet
        case rel => exact ⟨M7, hO7.out.1, hO7.out.2, hB7.out⟩
    case rest =>
      obtain ⟨M0, hO, HM0, hb2⟩ := hcut
      clear HNK HNA HNB HNC HCo HRB c0 c1 c2 c3 c4 c5 c6
      obtain ⟨a3, l3, k3, rfl, hP3'⟩ := PB.own hO HM0.out.2.2
      have hC := HC0.out.kept (hb2.block _ HC0.out.lt)
      obtain ⟨⟨c0, c1, c2, c3, c4, c5, c6⟩, -⟩ := hC.cells
      have HLW : Hid (Lsts wc pi li ci (ints (nat0 ids)) ∧ Lsts wc pr lr cr (ints (nat0 rows)) ∧ NRow wc pn ln cn nats) := ⟨HLS.out.1.below hb2, HLS.out.2.1.below hb2, HLS.out.2.2.below hb2⟩
      have hB2 := bthen hB1 hb2
      have hP3 : Hid (PB wc a3 l3 k3 M0) := hP3'
      have hb3 : Hid (Below wc.heap.size wc wc) := Below.refl _ _
      clear hO HLS HC0 hC hb2 hB1 hP3'
      obtain ⟨U, hU⟩ : ∃ U, U = wc := ⟨_, rfl⟩
      rw [← hU] at HLW hB2 hP3 hb3 c0 c1 c2 c3 c4 c5 c6
      rw [← hU]
      clear hU
      have KEEP : ∀ {wx w' : World}, Below U.heap.size U wx → Below wx.heap.size wx w' → (w'.cell? ⟨G, 0, none⟩ = some (.int .i64 (K : Int)) ∧ w'.cell? ⟨G, 1, none⟩ = some (.int .i64 (A : Int)) ∧ w'.cell? ⟨G, 2, none⟩ = some (.int .i64 (B : Int)) ∧ w'.cell? ⟨G, 3, none⟩ = some (.int .i64 (C : Int)) ∧ w'.cell? ⟨G, 4, none⟩ = some (.slice pi li ci) ∧ w'.cell? ⟨G, 5, none⟩ = some (.slice pr lr cr) ∧ w'.cell? ⟨G, 6, none⟩ = some (.slice pn ln cn)) ∧ Hid (Below wx.heap.size wx w') ∧ Hid (Below U.heap.size U w') := fun hx hb => ⟨⟨bkeep (bthen hx hb) c0 rfl, bkeep (bthen hx hb) c1 rfl, bkeep (bthen hx hb) c2 rfl, bkeep (bthen hx hb) c3 rfl, bkeep (bthen hx hb) c4 rfl, bkeep (bthen hx hb) c5 rfl, bkeep (bthen hx hb) c6 rfl⟩, hb, bthen hx hb⟩
      have HLi : Hid (∀ wx : World, Below U.heap.size U wx → Calls Try.prog 16 #[.slice pi li ci, .func (.func 15) #[] #[]] wx fun e w' => ∃ va vl vc y, e = .returned (.slice va vl vc) ∧ Hid (PB w' va vl vc y) ∧ Hid (IsLst (nat0 ids) y ∧ y.length ≤ 163850 ∧ Digs 256 y) ∧ (w'.cell? ⟨G, 0, none⟩ = some (.int .i64 (K : Int)) ∧ w'.cell? ⟨G, 1, none⟩ = some (.int .i64 (A : Int)) ∧ w'.cell? ⟨G, 2, none⟩ = some (.int .i64 (B : Int)) ∧ w'.cell? ⟨G, 3, none⟩ = some (.int .i64 (C : Int)) ∧ w'.cell? ⟨G, 4, none⟩ = some (.slice pi li ci) ∧ w'.cell? ⟨G, 5, none⟩ = some (.slice pr lr cr) ∧ w'.cell? ⟨G, 6, none⟩ = some (.slice pn ln cn)) ∧ Hid (Below wx.heap.size wx w') ∧ Hid (Below U.heap.size U w')) := by
        intro wx hbx
        refine (x12li_any pi li ci (nat0 ids) wx (HLW.out.1.below hbx) (by omega) HLI.out.2.1).mono ?_
        rintro e w' ⟨v, y, rfl, ho, hy, hb⟩
        obtain ⟨h1, h2⟩ := lst_len hy (by rw [HLI.out.1.1]; omega) HLI.out.2.1
        obtain ⟨va, vl, vc, rfl, hp⟩ := PB.own ho h2
        exact ⟨_, _, _, y, rfl, hp, ⟨hy, h1, h2⟩, KEEP hbx hb⟩
      have HLr : Hid (∀ wx : World, Below U.heap.size U wx → Calls Try.prog 16 #[.slice pr lr cr, .func (.func 15) #[] #[]] wx fun e w' => ∃ va vl vc y, e = .returned (.slice va vl vc) ∧ Hid (PB w' va vl vc y) ∧ Hid (IsLst (nat0 rows) y ∧ y.length ≤ 163850 ∧ Digs 256 y) ∧ (w'.cell? ⟨G, 0, none⟩ = some (.int .i64 (K : Int)) ∧ w'.cell? ⟨G, 1, none⟩ = some (.int .i64 (A : Int)) ∧ w'.cell? ⟨G, 2, none⟩ = some (.int .i64 (B : Int)) ∧ w'.cell? ⟨G, 3, none⟩ = some (.int .i64 (C : Int)) ∧ w'.cell? ⟨G, 4, none⟩ = some (.slice pi li ci) ∧ w'.cell? ⟨G, 5, none⟩ = some (.slice pr lr cr) ∧ w'.cell? ⟨G, 6, none⟩ = some (.slice pn ln cn)) ∧ Hid (Below wx.heap.size wx w') ∧ Hid (Below U.heap.size U w')) := by
        intro wx hbx
        refine (x12li_any pr lr cr (nat0 rows) wx (HLW.out.2.1.below hbx) (by omega) HLI.out.2.2).mono ?_
        rintro e w' ⟨v, y, rfl, ho, hy, hb⟩
        obtain ⟨h1, h2⟩ := lst_len hy (by rw [HLI.out.1.2.1]; omega) HLI.out.2.2
        obtain ⟨va, vl, vc, rfl, hp⟩ := PB.own ho h2
        exact ⟨_, _, _, y, rfl, hp, ⟨hy, h1, h2⟩, KEEP hbx hb⟩
      have HLn : Hid (∀ wx : World, Below U.heap.size U wx → Calls Try.prog 17 #[.slice pn ln cn, .func (.func 18) #[] #[]] wx fun e w' => ∃ va vl vc y, e = .returned (.slice va vl vc) ∧ Hid (PB w' va vl vc y) ∧ Hid ((∃ bss, NatsB nats bss ∧ IsBlobs bss y) ∧ y.length ≤ 10 + nats.length * 530 ∧ Digs 256 y) ∧ (w'.cell? ⟨G, 0, none⟩ = some (.int .i64 (K : Int)) ∧ w'.cell? ⟨G, 1, none⟩ = some (.int .i64 (A : Int)) ∧ w'.cell? ⟨G, 2, none⟩ = some (.int .i64 (B : Int)) ∧ w'.cell? ⟨G, 3, none⟩ = some (.int .i64 (C : Int)) ∧ w'.cell? ⟨G, 4, none⟩ = some (.slice pi li ci) ∧ w'.cell? ⟨G, 5, none⟩ = some (.slice pr lr cr) ∧ w'.cell? ⟨G, 6, none⟩ = some (.slice pn ln cn)) ∧ Hid (Below wx.heap.size wx w') ∧ Hid (Below U.heap.size U w')) := by
        intro wx hbx
        refine (x12ln_any pn ln cn nats wx (HLW.out.2.2.below hbx) (by omega)).mono ?_
        rintro e w' ⟨v, y, bss, rfl, ho, hy, ⟨h2, h1⟩, hb⟩
        obtain ⟨va, vl, vc, rfl, hp⟩ := PB.own ho h2
        exact ⟨_, _, _, y, rfl, hp, ⟨⟨bss, hy⟩, h1, h2⟩, KEEP hbx hb⟩
      have HCo : Hid (∀ (wx : World) (g : Nat) (a0 : Option Addr) (l0 k0 : Nat) (a1 : Option Addr) (l1 k1 : Nat) (a2 : Option Addr) (l2 k2 : Nat) (a3 : Option Addr) (l3 k3 : Nat) (z0 z1 z2 z3 : List Int), Hid (CodesOf [K, A, B, C] z0 ∧ (z0.length ≤ 40 ∧ Digs 256 z0)) → Hid (IsLst (nat0 ids) z1 ∧ z1.length ≤ 163850 ∧ Digs 256 z1) → Hid (IsLst (nat0 rows) z2 ∧ z2.length ≤ 163850 ∧ Digs 256 z2) → Hid ((∃ bss, NatsB nats bss ∧ IsBlobs bss z3) ∧ z3.length ≤ 10 + nats.length * 530 ∧ Digs 256 z3) → wx.cell? ⟨g, 0, none⟩ = some (.slice a0 l0 k0) → wx.cell? ⟨g, 1, none⟩ = some (.slice a1 l1 k1) → wx.cell? ⟨g, 2, none⟩ = some (.slice a2 l2 k2) → wx.cell? ⟨g, 3, none⟩ = some (.slice a3 l3 k3) → PB wx a0 l0 k0 z0 → PB wx a1 l1 k1 z1 → PB wx a2 l2 k2 z2 → PB wx a3 l3 k3 z3 → Below U.heap.size U wx → Calls Try.prog 14 #[.slice (some ⟨g, 0, none⟩) 4 4] wx fun e w' => ∃ v M, e = .returned v ∧ Hid (BOwn w' U.heap.size v M ∧ IsMsg K A B C ids rows nats M ∧ (M.length ≤ 327750 + nats.length * 530 ∧ Digs 256 M)) ∧ (w'.cell? ⟨G, 0, none⟩ = some (.int .i64 (K : Int)) ∧ w'.cell? ⟨G, 1, none⟩ = some (.int .i64 (A : Int)) ∧ w'.cell? ⟨G, 2, none⟩ = some (.int .i64 (B : Int)) ∧ w'.cell? ⟨G, 3, none⟩ = some (.int .i64 (C : Int)) ∧ w'.cell? ⟨G, 4, none⟩ = some (.slice pi li ci) ∧ w'.cell? ⟨G, 5, none⟩ = some (.slice pr lr cr) ∧ w'.cell? ⟨G, 6, none⟩ = some (.slice pn ln cn)) ∧ Hid (Below wx.heap.size wx w') ∧ Hid (Below U.heap.size U w')) := by
        rintro wx g a0 l0 k0 a1 l1 k1 a2 l2 k2 a3 l3 k3 z0 z1 z2 z3 q0 q1 q2 q3 y0 y1 y2 y3 p0 p1 p2 p3 hbx
        have hcat : catL [(a0, l0, k0, z0), (a1, l1, k1, z1), (a2, l2, k2, z2), (a3, l3, k3, z3)] = z0 ++ (z1 ++ (z2 ++ z3)) := by simp [catL]
        have hP : Parts10 wx g [(a0, l0, k0, z0), (a1, l1, k1, z1), (a2, l2, k2, z2), (a3, l3, k3, z3)] := by
          intro i p hp
          match i, hp with
          | 0, hp => cases hp; exact ⟨y0, p0.1, p0.2⟩
          | 1, hp => cases hp; exact ⟨y1, p1.1, p1.2⟩
          | 2, hp => cases hp; exact ⟨y2, p2.1, p2.2⟩
          | 3, hp => cases hp; exact ⟨y3, p3.1, p3.2⟩
          | i + 4, hp => simp at hp
        have l0' := q0.out.2.1
        have l1' := q1.out.2.1
        have l2' := q2.out.2.1
        have l3' := q3.out.2.1
        have lnn := HLI.out.1.2.2
        have hle : (z0 ++ (z1 ++ (z2 ++ z3))).length ≤ 327750 + nats.length * 530 := by simp only [List.length_append]; omega
        have hpos : 0 < (z0 ++ (z1 ++ (z2 ++ z3))).length := by
          obtain ⟨x, y, hx, -, hxy⟩ := q0.out.1
          have := hx.nonempty
          rw [hxy]
          cases x with
          | nil => exact absurd rfl this
          | cons x z => simp
        obtain ⟨bss, hb1, hb2⟩ := q3.out.1
        refine (concat10_any g 4 _ 4 wx rfl (Nat.le_refl _) (by decide) hP (by rw [hcat]; exact hpos) (by rw [hcat]; omega)).mono ?_
        rintro e w' ⟨v, rfl, ho, hb⟩
        rw [hcat] at ho
        exact ⟨v, _, rfl, ⟨ho.base hbx.size, ⟨bss, hb1, z0, z1, z2, z3, by simpa using q0.out.1, q1.out.1, q2.out.1, hb2, rfl⟩, hle, q0.out.2.2.app9 (q1.out.2.2.app9 (q2.out.2.2.app9 q3.out.2.2))⟩, KEEP hbx hb⟩
      have HRB : Hid (Below U.heap.size U U) := Below.refl _ _
      clear KEEP
      go_wp2_with fail
      go_cut [5] (fun pv wx => ∃ M, BOwn wx U.heap.size pv M ∧ Hid (IsMsg K A B C ids rows nats M ∧ (M.length ≤ 327750 + nats.length * 530 ∧ Digs 256 M)) ∧ Below U.heap.size U wx)
      case first =>
        clear hB2 hkb hll HLW
        have ne0 := World.new_ne U ⟨G, 0, none⟩ c0
        go_region_held3 (fun w' => (w'.cell? ⟨G, 0, none⟩ = some (.int .i64 (K : Int)) ∧ w'.cell? ⟨G, 1, none⟩ = some (.int .i64 (A : Int)) ∧ w'.cell? ⟨G, 2, none⟩ = some (.int .i64 (B : Int)) ∧ w'.cell? ⟨G, 3, none⟩ = some (.int .i64 (C : Int)) ∧ w'.cell? ⟨G, 4, none⟩ = some (.slice pi li ci) ∧ w'.cell? ⟨G, 5, none⟩ = some (.slice pr lr cr) ∧ w'.cell? ⟨G, 6, none⟩ = some (.slice pn ln cn))) (first | go_keep | exact ⟨n70, n71, n72, n73, n74, n75, n76⟩ | exact ⟨n60, n61, n62, n63, n64, n65, n66⟩ | exact ⟨n50, n51, n52, n53, n54, n55, n56⟩ | exact ⟨n40, n41, n42, n43, n44, n45, n46⟩)
          (first
          | (go_at_call 16; with_reducible refine Calls.mono (HLi.out _ ?_) ?_; (focus (repeat (first | exact HRB.out | exact hB3.out | exact hB4.out | exact hB5.out | exact hB6.out | refine bdrX' ?_ | refine bgrX ?_ _))); rintro e w4 ⟨a4, l4, k4, z4, rfl, hP4, q4, ⟨n40, n41, n42, n43, n44, n45, n46⟩, hb4, hB4⟩; have ne4 := World.new_ne w4 ⟨G, 0, none⟩ n40)
          | (go_at_call 16; with_reducible refine Calls.mono (HLr.out _ ?_) ?_; (focus (repeat (first | exact HRB.out | exact hB3.out | exact hB4.out | exact hB5.out | exact hB6.out | refine bdrX' ?_ | refine bgrX ?_ _))); rintro e w5 ⟨a5, l5, k5, z5, rfl, hP5, q5, ⟨n50, n51, n52, n53, n54, n55, n56⟩, hb5, hB5⟩; have ne5 := World.new_ne w5 ⟨G, 0, none⟩ n50)
          | (go_at_call 17; with_reducible refine Calls.mono (HLn.out _ ?_) ?_; (focus (repeat (first | exact HRB.out | exact hB3.out | exact hB4.out | exact hB5.out | exact hB6.out | refine bdrX' ?_ | refine bgrX ?_ _))); rintro e w6 ⟨a6, l6, k6, z6, rfl, hP6, q6, ⟨n60, n61, n62, n63, n64, n65, n66⟩, hb6, hB6⟩; have ne6 := World.new_ne w6 ⟨G, 0, none⟩ n60)
          | (go_at_call 14; with_reducible refine Calls.mono (HCo.out _ _ a3 l3 k3 a4 l4 k4 a5 l5 k5 a6 l6 k6 M0 z4 z5 z6 HM0 q4 q5 q6 ?_ ?_ ?_ ?_ ?_ ?_ ?_ ?_ ?_) ?_; (focus (first | exact cell4_0 _ _ _ _ _ _ | exact cell4s_0 _ _ _ _ _ _ _)); (focus (first | exact cell4_1 _ _ _ _ _ _ | exact cell4s_1 _ _ _ _ _ _ _)); (focus (first | exact cell4_2 _ _ _ _ _ _ | exact cell4s_2 _ _ _ _ _ _ _)); (focus (first | exact cell4_3 _ _ _ _ _ _ | exact cell4s_3 _ _ _ _ _ _ _)); (focus (repeat (first | with_reducible exact hP3.out | with_reducible exact hP4.out | with_reducible exact hP5.out | with_reducible exact hP6.out | with_reducible refine PB.drew ?_ | with_reducible refine PB.grow ?_ _ | with_reducible refine PB.below ?_ hb3.out | with_reducible refine PB.below ?_ hb4.out | with_reducible refine PB.below ?_ hb5.out | with_reducible refine PB.below ?_ hb6.out))); (focus (repeat (first | with_reducible exact hP3.out | with_reducible exact hP4.out | with_reducible exact hP5.out | with_reducible exact hP6.out | with_reducible refine PB.drew ?_ | with_reducible refine PB.grow ?_ _ | with_reducible refine PB.below ?_ hb3.out | with_reducible refine PB.below ?_ hb4.out | with_reducible refine PB.below ?_ hb5.out | with_reducible refine PB.below ?_ hb6.out))); (focus (repeat (first | with_reducible exact hP3.out | with_reducible exact hP4.out | with_reducible exact hP5.out | with_reducible exact hP6.out | with_reducible refine PB.drew ?_ | with_reducible refine PB.grow ?_ _ | with_reducible refine PB.below ?_ hb3.out | with_reducible refine PB.below ?_ hb4.out | with_reducible refine PB.below ?_ hb5.out | with_reducible refine PB.below ?_ hb6.out))); (focus (repeat (first | with_reducible exact hP3.out | with_reducible exact hP4.out | with_reducible exact hP5.out | with_reducible exact hP6.out | with_reducible refine PB.drew ?_ | with_reducible refine PB.grow ?_ _ | with_reducible refine PB.below ?_ hb3.out | with_reducible refine PB.below ?_ hb4.out | with_reducible refine PB.below ?_ hb5.out | with_reducible refine PB.below ?_ hb6.out))); (focus (repeat (first | exact HRB.out | exact hB3.out | exact hB4.out | exact hB5.out | exact hB6.out | refine bdrX' ?_ | refine bgrX ?_ _))); rintro e w7 ⟨v7, M7, rfl, hO7, ⟨n70, n71, n72, n73, n74, n75, n76⟩, hb7, hB7⟩))
        all_goals
          clear HLi HLr HLn HCo HRB
          go_wp2_with fail
          go_meet
          case rel => exact ⟨M7, hO7.out.1, hO7.out.2, hB7.out⟩
      case rest =>
        obtain ⟨Y, hown, HE, hb4⟩ := hcut
        clear HLi HLr HLn HCo HRB c0 c1 c2 c3 c4 c5 c6 hP3 hb3
        have hYl := HE.out.2.1
        obtain ⟨oa, on, oc, rfl, hOb, qbO, nnO⟩ := hown.fresh HE.out.2.2
        have hol := hOb.hlen
        have hBB := bthen hB2 hb4
        have HOF : Hid (Byts wc oa on oc Y ∧ ((oa = none → oc = 0) ∧ ∀ ad, oa = some ad → 0 < on → w.heap.size ≤ ad.block ∧ IsB wc ad.block)) := ⟨hOb, nil9 nnO, fun ad e h0 => by
          obtain ⟨q, e2, hq, cur, hqc, -⟩ := qbO h0
          rw [e] at e2
          cases e2
          exact ⟨Nat.le_trans hB2.size hq, cur, hqc⟩⟩
        have HYL : Hid (Y.length = on) := hol
        have hoc := hOb.hcap
        have hom := hOb.hmax
        unfold maxLen at hom
        clear hown hOb qbO nnO hol hb4 hB2
        by_cases hbig : 1048576 < on
        · have hbd : (1048576 : Int) < (on : Int) := by omega
          have HF : Hid (ResWire K A B C ids rows nats [] 16) := .inr ⟨fun h => by
            obtain ⟨-, x, hx, hxl⟩ := h
            rw [hx.unique HE.out.1, HYL.out] at hxl
            omega, rfl, rfl⟩
          have HNR : Hid (RightM K A B C ids rows nats → nats.length ≤ 1000 → (16 : Int) = 0) := fun _ q => (by exfalso; have := HYL.out; omega)
          clear HE
          go_wp2_with fail
          first | exact ⟨none, 0, 0, [], 16, rfl, Byts.nil _, HF.out, ⟨fun _ => rfl, fun _ e => (by cases e)⟩, hBB, HNR.out⟩ | (go_ret2; exact ⟨none, 0, 0, [], 16, rfl, Byts.nil _, HF.out, ⟨fun _ => rfl, fun _ e => (by cases e)⟩, hBB, HNR.out⟩)
        · have hbd : decide ((1048576 : Int) < (on : Int)) = false := decide_eq_false (by omega)
          have HF : Hid (ResWire K A B C ids rows nats Y 0) := .inl ⟨HM.out, HE.out.1, by rw [HYL.out]; omega, rfl⟩
          clear HE
          go_wp2_with fail
          first | exact ⟨oa, on, oc, Y, 0, rfl, HOF.out.1, HF.out, HOF.out.2, hBB, fun _ _ => rfl⟩ | (go_ret2; exact ⟨oa, on, oc, Y, 0, rfl, HOF.out.1, HF.out, HOF.out.2, hBB, fun _ _ => rfl⟩)
theorem enc_ok12 : EncOk12 := fun k a b c pi li ci pr lr cr pn ln cn ids rows nats w H => (x12enc_any k a b c pi li ci pr lr cr pn ln cn ids rows nats w H.three).mono fun _ _ ⟨a', l', c', ys, err, h1, h2, h3, h4, h5, _⟩ => ⟨a', l', c', ys, err, h1, h2, h3, h4, h5⟩
end Go.Proofs.Ytnbdbahfekneoab
