/-
  Contracts of plus, fitted and nat.Add: the sum of two numbers, in new memory.
-/
import Derived.Test.YtaipkganijofjabAddTo
namespace Go.Proofs.Ytaipkganijofjab
open Go.RowKit

theorem vs_set {B : Int} {M : List Int} {j n : Nat} {v : Int} (hj : j < n) (hl : j < M.length) :
    vs B (fun i => (M.set j v).getD i 0) n = vs B (fun i => M.getD i 0) n + B ^ j * (v - M.getD j 0) := by
  induction n with
  | zero => omega
  | succ n ih =>
    simp only [vs]
    by_cases e : j = n
    · subst e
      rw [getD_set_self hl, vs_congr (g := fun i => M.getD i 0) (fun i hi => getD_set_ne (by omega)), Int.mul_sub]
      omega
    · rw [ih (by omega), getD_set_ne e]
      omega

/-- Two lists that part within a segment alone. -/
theorem vs_seg {B : Int} {N M : List Int} {o m n : Nat} (hn : o + m ≤ n) (h : ∀ j, j < o ∨ o + m ≤ j → N.getD j 0 = M.getD j 0) :
    vs B (fun j => N.getD j 0) n = vs B (fun j => M.getD j 0) n + B ^ o * (vs B (fun i => N.getD (o + i) 0) m - vs B (fun i => M.getD (o + i) 0) m) := by
  obtain ⟨r, rfl⟩ : ∃ r, n = o + (m + r) := ⟨n - o - m, by omega⟩
  rw [vs_add, vs_add, vs_add B (fun j => M.getD j 0) o, vs_add B (fun i => M.getD (o + i) 0) m]
  have e1 : vs B (fun j => N.getD j 0) o = vs B (fun j => M.getD j 0) o := vs_congr (fun i hi => h i (by omega))
  have e2 : vs B (fun i => N.getD (o + (m + i)) 0) r = vs B (fun i => M.getD (o + (m + i)) 0) r := vs_congr (fun i hi => h _ (by omega))
  rw [e1, e2, Int.mul_add, Int.mul_add, Int.mul_sub]
  omega

/-- So many noughts; and words laid over the first ones of others. (Behind names of their own, so that a walk leaves them as they stand.) -/
def noughts (n : Nat) : List Int := List.replicate n 0
def over (zs L : List Int) (n : Nat) : List Int := zs ++ L.drop n
theorem over_noughts (zs : List Int) (n m : Nat) : over zs (noughts m) n = zs ++ List.replicate (m - n) 0 := by simp [over, noughts]
theorem length_noughts (n : Nat) : (noughts n).length = n := by simp [noughts]

theorem wpList_mk (w : World) {ops : Array Oper} {rest : List Oper} {o : Oper} {a : Act} {Q : Exit → Act → World → Prop}
    (hg : o.guard = none) (l c : Operand) (t : TypeId) (hop : o.op = Op.makeSlice t l c) (ht : Try.prog.underlying t = some (.slice 29))
    (kl kc : IntKind) (L C : Int) (n : Nat) (hl : a.eval l = .int kl L) (hc : a.eval c = .int kc C) (hL : L = (n : Int)) (hC : C = (n : Int)) (hn : n ≤ 1000000)
    (hK : ∀ w', Blk w' w.heap.size (noughts n) → Below w.heap.size w w' → w'.heap.size = w.heap.size + 1 → wpList Try.prog ops Q rest (a.put o.dst (.slice (some ⟨w.heap.size, 0, none⟩) n n)) w') :
    wpList Try.prog ops Q (o :: rest) a w := by
  obtain ⟨i0, hi, hz0, hz1, hz2⟩ := info_parts Try.info25
  refine wpList_plain hg fun K hK' => ?_
  subst hL
  subst hC
  have hrun := run_make (P := Try.prog) w t 29 i0 (.int .u64 0) ht hi hz0 kl kc n n (by omega) (Int.le_refl _) (by rw [hz2]; omega) (by omega)
  simp only [Int.toNat_natCast] at hrun
  unfold Oper.wp
  simp [execOp, hop, hl, hc, hrun, Result.andThen]
  refine hK' _ _ (hK _ ?_ ((Below.refl _ _).alloc (Nat.le_refl _) _) (by simp))
  have e : (madeCells (Value.int .u64 0).cells (n * i0.size)) = ((List.replicate n (0 : Int)).map (Value.int .u64)).toArray := by
    apply Array.toList_inj.1
    have := toList_madeCells_one (.int .u64 0) n
    rw [hz1, Nat.mul_one]
    simpa [Value.cells] using this
  refine ⟨_, heap_alloc_new w _, ?_⟩
  rw [e]
  simp [noughts]

theorem wpList_cp (w : World) {ops : Array Oper} {rest : List Oper} {o : Oper} {a : Act} {Q : Exit → Act → World → Prop} (hgd : o.guard = none) (d s : Operand) (dT sT : TypeId)
    (ho : o.op = .call { callee := .builtin .copy, args := #[d, s], argTypes := #[dT, sT] }) (hu : Try.prog.underlying dT = some (.slice 29))
    (g n cp : Nat) (L : List Int) (hd : a.eval d = .slice (some ⟨g, 0, none⟩) n cp) (hb : Blk w g L) (hnL : n ≤ L.length)
    (sa : Option Addr) (la ca : Nat) (zs : List Int) (hs : a.eval s = .slice sa la ca) (hz : Nums w sa la ca zs) (hle : la ≤ n)
    (h : ∀ w', Blk w' g (over zs L la) → w.grownBy w' (some g) → w'.heap.size = w.heap.size → wpList Try.prog ops Q rest (a.put o.dst (goInt la)) w') :
    wpList Try.prog ops Q (o :: rest) a w := by
  obtain ⟨i0, hi, hz0, hz1, hz2⟩ := info_parts Try.info25
  have hsz : (Try.prog.info? 29).map (·.size) = some 1 := by rw [hi]; simp [hz1]
  have hl := hz.hlen
  by_cases h0 : la = 0
  · subst h0
    have e : zs = [] := List.eq_nil_of_length_eq_zero hl
    subst e
    exact wpList_copy_nothing hgd d s dT sT ho 29 hu hsz _ _ n cp 0 ca hd hs (by simp) (h w (by simpa [over] using hb) (World.grownBy.refl _ _) rfl)
  · obtain ⟨b, off, rfl, hc⟩ := hz.cells (by omega)
    have hlen : (zs.map (Value.int .u64)).length = la := by simp [hl]
    obtain ⟨cur, hb1, hb2⟩ := hb
    have hsize : L.length ≤ cur.size := by have := congrArg List.length hb2; simp at this; omega
    refine wpList_copy_own hgd d s dT sT ho 29 hu hsz g 0 n cp ⟨b, off, none⟩ la ca hd hs _ _ hb1 (zs.map (Value.int .u64)) (by rw [hlen]; exact (Nat.min_eq_left hle).symm) ?_ ?_ (ints_oneCell _ _) ?_
    · intro j v hj
      have hjl : j < la := by have := (List.getElem?_eq_some_iff.1 hj).1; omega
      rw [Addr.add_lit, hc j hjl]
      have : (zs.map (Value.int .u64))[j]? = some (.int .u64 (zs.getD j 0)) := by simp [List.getD, show j < zs.length by omega]
      rw [this] at hj
      exact hj
    · simp; omega
    · rw [hlen]
      refine h _ ?_ ⟨rfl, rfl, rfl, by simp [World.setRow], fun k _ hk => setRow_other w g k _ (fun e => hk (by simp [e]))⟩ (by simp [World.setRow])
      refine ⟨_, setRow_heap w g _ _ _ _ hb1, ?_⟩
      have e2 : (over zs L la).length = L.length := by simp [over]; omega
      rw [e2]
      simp only [over, List.map_append, List.map_drop, ← hb2, List.take_zero, List.nil_append, Nat.zero_add]
      rw [List.take_append, List.take_of_length_le (by simp; omega), List.length_map, hl, List.drop_take]

theorem val_pad (zs : List Int) (m : Nat) : val 18446744073709551616 (zs ++ List.replicate m 0) = val 18446744073709551616 zs := by
  rw [val_append, val_zeros (zs := List.replicate m 0) _ (fun x hx => (List.mem_replicate.1 hx).2)]; omega
theorem Digs.pad {zs : List Int} (h : Digs 18446744073709551616 zs) (m : Nat) : Digs 18446744073709551616 (zs ++ List.replicate m 0) := by
  intro x hx
  rcases List.mem_append.1 hx with hx | hx
  · exact h x hx
  · rw [(List.mem_replicate.1 hx).2]; omega

/-- The sum has room: nothing is carried out of one limb more. -/
theorem plus_end {L M zs ys : List Int} {m : Nat} {cy : Int} (hz : Digs 18446744073709551616 zs) (hy : Digs 18446744073709551616 ys) (hlz : zs.length ≤ m) (hly : ys.length ≤ m) (hLe : val 18446744073709551616 L = val 18446744073709551616 zs) (hLl : L.length = m + 1) (hMl : M.length = L.length)
    (hMd : Digs 18446744073709551616 M) (hcy : 0 ≤ cy ∧ cy ≤ 1)
    (hv : vs 18446744073709551616 (fun i => M.getD (0 + i) 0) (m + 1) + 18446744073709551616 ^ (m + 1) * cy = vs 18446744073709551616 (fun i => L.getD (0 + i) 0) (m + 1) + vs 18446744073709551616 (fun i => ys.getD i 0) (m + 1)) :
    val 18446744073709551616 M = val 18446744073709551616 zs + val 18446744073709551616 ys := by
  have hB : (0 : Int) < 18446744073709551616 := by decide
  simp only [Nat.zero_add] at hv
  rw [vs_all _ M (by omega), vs_all _ L (by omega), vs_all _ ys (by omega), hLe] at hv
  have b1 := val_lt_pow hB hz hlz
  have b2 := val_lt_pow hB hy hly
  have b3 := val_nonneg hB hMd
  have b4 : (18446744073709551616 : Int) ^ (m + 1) = 18446744073709551616 ^ m * 18446744073709551616 := Int.pow_succ ..
  have b5 := pow_pos' hB m
  have hc : cy = 0 ∨ cy = 1 := by omega
  rcases hc with rfl | rfl
  · omega
  · rw [b4] at hv
    generalize (18446744073709551616 : Int) ^ m = P at b1 b2 b5 hv
    omega

set_option maxHeartbeats 800000 in
theorem plus_any (a b : Option Addr) (la ca lb cb : Nat) (zs ys : List Int) (w : World) (h : Nums w a la ca zs) (h' : Nums w b lb cb ys) (hla : la ≤ 10000) (hlb : lb ≤ 10000) :
    Calls Try.prog 76 #[.slice a la ca, .slice b lb cb] w fun e w' => ∃ L n, e = .returned (.slice (some ⟨w.heap.size, 0, none⟩) n n) ∧ L.length = n ∧ n = Nat.max la lb + 1 ∧
      Blk w' w.heap.size L ∧ Digs 18446744073709551616 L ∧ val 18446744073709551616 L = val 18446744073709551616 zs + val 18446744073709551616 ys ∧ Below w.heap.size w w' := by
  have hl := h.hlen
  have hl' := h'.hlen
  have HLs : Hid (zs.length = la ∧ ys.length = lb) := ⟨hl, hl'⟩
  have hapb : 0 < lb → Apart b w.heap.size := fun hp x hx => by
    obtain ⟨b1, o1, rfl, hc⟩ := h'.cells hp
    have := World.block_lt_of_cell? w _ (hc 0 hp)
    cases hx
    simp at this ⊢; omega
  have hd := h.digs
  have hd' := h'.digs
  clear hl hl'
  obtain ⟨m, hm, hla', hlb', hcase⟩ : ∃ m, m = Nat.max la lb ∧ la ≤ m ∧ lb ≤ m ∧ m ≤ 10000 := ⟨_, rfl, Nat.le_max_left .., Nat.le_max_right .., Nat.max_le.2 ⟨hla, hlb⟩⟩
  have HM : Hid (m = Nat.max la lb) := hm
  have fin : ∀ w1, Blk w1 w.heap.size (noughts (m + 1)) → Below w.heap.size w w1 → ∀ w2, Blk w2 w.heap.size (over zs (noughts (m + 1)) la) → w1.grownBy w2 (some w.heap.size) → Nums w1 b lb cb ys ∧
      Calls Try.prog 98 #[.slice (some ⟨w.heap.size, 0, none⟩) (m + 1) (m + 1), .slice b lb cb] w2 fun e w' => ∃ M cy, e = .returned (.int .u64 cy) ∧ M.length = m + 1 ∧ Blk w' w.heap.size M ∧ Digs 18446744073709551616 M ∧ val 18446744073709551616 M = val 18446744073709551616 zs + val 18446744073709551616 ys ∧ Below w.heap.size w w' := by
    intro w1 hb1 hbel w2 hb2 hg
    have hn1 := h'.below hbel
    refine ⟨hn1, ?_⟩
    have hlen : (zs ++ List.replicate (m + 1 - la) (0 : Int)).length = m + 1 := by simp [HLs.out.1]; omega
    rw [over_noughts] at hb2
    refine (addTo_any _ w.heap.size 0 (m + 1) _ _ b lb cb ys w2 (fun _ => rfl) hb2 (hd.pad _) (by omega) (by omega) (hn1.grown hg hapb) hapb).mono ?_
    rintro e w3 ⟨M, cy, rfl, hbM, hMd, hMl, -, hcy, hv, hg3⟩
    have hb12 := hbel.trans (below_of_grown hg (Nat.le_refl _) hbel.size)
    exact ⟨M, cy, rfl, by omega, hbM, hMd, plus_end hd hd' (by have := HLs.out; omega) (by have := HLs.out; omega) (val_pad _ _) hlen hMl hMd hcy hv, hb12.trans (below_of_grown hg3 (Nat.le_refl _) hb12.size)⟩
  have Hfin := (show Hid _ from fin)
  clear fin hm
  by_cases hlt : la < lb
  · obtain rfl : m = lb := HM.out.trans (Nat.max_eq_right (Nat.le_of_lt hlt))
    go_enter Try.func76, Try.ntmps76
    go_wp2_with (at_make; refine wpList_mk _ rfl _ _ 23 rfl Try.underlying23 .i64 .i64 _ _ (m + 1) rfl rfl (by omega) (by omega) (by omega) ?_)
    intro w1 hb1 hbel hsz
    have hza := h.below hbel
    go_wp2_with (refine wpList_cp _ (by rfl) _ _ 23 23 (by rfl) Try.underlying23 w.heap.size (m + 1) (m + 1) _ (by rfl) hb1 (by simp [noughts]) _ _ _ zs (by rfl) hza (by omega) ?_)
    intro w2 hb2 hg2 hsz2
    have hcall := (Hfin.out w1 hb1 hbel w2 hb2 hg2).2
    clear hb1 hb2 hg2 hza
    go_wp2_with fail
    refine hcall.mono ?_
    rintro e w3 ⟨M, cy, rfl, hMl, hbM, hMd, hv, hbf⟩
    go_wp2_with fail
    go_ret
    exact ⟨M, _, rfl, hMl, by rw [← HM.out], hbM, hMd, hv, hbf⟩
  · obtain rfl : m = la := HM.out.trans (Nat.max_eq_left (Nat.le_of_not_lt hlt))
    go_enter Try.func76, Try.ntmps76
    go_wp2_with (at_make; refine wpList_mk _ rfl _ _ 23 rfl Try.underlying23 .i64 .i64 _ _ (m + 1) rfl rfl (by omega) (by omega) (by omega) ?_)
    intro w1 hb1 hbel hsz
    have hza := h.below hbel
    go_wp2_with (refine wpList_cp _ (by rfl) _ _ 23 23 (by rfl) Try.underlying23 w.heap.size (m + 1) (m + 1) _ (by rfl) hb1 (by simp [noughts]) _ _ _ zs (by rfl) hza (by omega) ?_)
    intro w2 hb2 hg2 hsz2
    have hcall := (Hfin.out w1 hb1 hbel w2 hb2 hg2).2
    clear hb1 hb2 hg2 hza
    go_wp2_with fail
    refine hcall.mono ?_
    rintro e w3 ⟨M, cy, rfl, hMl, hbM, hMd, hv, hbf⟩
    go_wp2_with fail
    go_ret
    exact ⟨M, _, rfl, hMl, by rw [← HM.out], hbM, hMd, hv, hbf⟩
end Go.Proofs.Ytaipkganijofjab
