/-
  The contract of the document's In: a number as digits of base 65536, of the same value.
-/
import Derived.Test.YtennhoalgclhjaaFew
namespace Go.Proofs.Ytennhoalgclhjaa
open Go.RowKit

/-- The slice value v, in a row of the call's own from block 'base' on, holds the words zs. -/
def Own (w : World) (base : Nat) (v : Value) (zs : List Int) : Prop := w.ownsRow base 25 1 v zs.length (zs.map (Value.int .u64))

theorem Own.nil (w : World) (base : Nat) : Own w base (.slice none 0 0) [] := World.ownsRow_nil _ _ _ _
theorem Own.alloc {w : World} {base : Nat} {v : Value} {zs : List Int} (h : Own w base v zs) (o : Obj) : Own (w.alloc o) base v zs := World.ownsRow.alloc h o
theorem Own.drewN {w : World} {base : Nat} {v : Value} {zs : List Int} (h : Own w base v zs) (n : Nat) : Own (w.drewN n) base v zs := h

theorem Own.nums {w : World} {base : Nat} {v : Value} {zs : List Int} (h : Own w base v zs) (hd : Digs 18446744073709551616 zs) : ∃ a cap, v = .slice a zs.length cap ∧ Nums w a zs.length cap zs := by
  obtain ⟨h1, h2⟩ := h
  rcases h2 with ⟨rfl, hn⟩ | ⟨g, cap, cur, rfl, hb, hg, hnc, hcm, hcs, htk⟩
  · have e : zs = [] := List.eq_nil_of_length_eq_zero hn
    subst e
    exact ⟨none, 0, rfl, Nums.nil _⟩
  · refine ⟨some ⟨g, 0, none⟩, cap, rfl, rfl, hnc, hcm, fun _ => ⟨g, 0, rfl, fun i hi => ?_⟩, hd⟩
    have hown : w.ownsRow base 25 1 (.slice (some ⟨g, 0, none⟩) zs.length cap) zs.length (zs.map (Value.int .u64)) := ⟨h1, .inr ⟨g, cap, cur, rfl, hb, hg, hnc, hcm, hcs, htk⟩⟩
    rw [Nat.zero_add, hown.cellAt i (by omega)]
    simp [List.getD, hi]

theorem Try.info25 : (Try.prog.info? 25).map (fun i => (i.zero, i.size, i.bytes)) = some (some (.int .u64 0), 1, 8) := by kernel_rfl

theorem wpList_app1 (w : World) {ops : Array Oper} {rest : List Oper} {o : Oper} {a : Act} {Q : Exit → Act → World → Prop} (hgd : o.guard = none) (s x : Operand) (t : TypeId)
    (ho : o.op = .call { callee := .builtin .append, args := #[s, x], argTypes := #[t, t] }) (ht : Try.prog.underlying t = some (.slice 25))
    (base : Nat) (v : Value) (zs : List Int) (hs : a.eval s = v) (hown : Own w base v zs) (ad : Addr) (y : Int) (hx : a.eval x = .slice (some ad) 1 1) (hc : w.cell? ad = some (.int .u64 y))
    (hlen : zs.length < 1000000) (w0 : World) (hbase : base ≤ w.heap.size) (hb : Below base w0 w)
    (h : ∀ v' w', Own w' base v' (zs ++ [y]) → Below base w0 w' → wpList Try.prog ops Q rest (a.put o.dst v') w') : wpList Try.prog ops Q (o :: rest) a w := by
  obtain ⟨i0, hi, hz0, hz1, hz2⟩ := info_parts Try.info25
  refine wpList_append_own w hgd s x t ho base 25 i0 (.int .u64 0) 1 8 ht hi hz0 hz1 hz2 rfl (by decide) v zs.length (zs.map (Value.int .u64)) hs hown ad 1 1 [.int .u64 y] hx rfl ?_ ?_ ?_ ?_ hbase ?_
  · intro j u hj
    match j, hj with
    | 0, hj =>
      simp at hj; subst hj
      obtain ⟨b, off, spot⟩ := ad
      have hspot : spot = none := World.cell?_spot hc
      subst hspot
      rw [Addr.add_lit]; exact hc
  · intro u hu; simp at hu; subst hu; rfl
  · unfold maxLen; omega
  · omega
  · intro v' w' h2 h3 _
    refine h v' w' ?_ (hb.grown h3 hbase (fun k hk => (World.ownsRow.lt hown k hk).1))
    have e : (zs ++ [y]).length = zs.length + 1 := by simp
    unfold Own
    rw [e, List.map_append]
    exact h2

theorem in_step {ds : List Int} {k j : Nat} {y R : Int} (hj : j < 4) (hl : ds.length = 4 * k + j) (hd : Digs 65536 ds) (hv : val 65536 ds + 65536 ^ (4 * k + j) * y = R) (hy : 0 ≤ y) (hlt : y < 65536 ^ (4 - j)) :
    (ds ++ [y % 65536]).length = 4 * k + (j + 1) ∧ Digs 65536 (ds ++ [y % 65536]) ∧ val 65536 (ds ++ [y % 65536]) + 65536 ^ (4 * k + (j + 1)) * (y / 65536) = R ∧ 0 ≤ y / 65536 ∧ y / 65536 < 65536 ^ (4 - (j + 1)) := by
  refine ⟨by simp [hl]; omega, hd.snoc ⟨by omega, by omega⟩, ?_, by omega, ?_⟩
  · rw [val_snoc, hl, show 4 * k + (j + 1) = (4 * k + j) + 1 by omega, Int.pow_succ, Int.mul_assoc]
    have e : y = 65536 * (y / 65536) + y % 65536 := by omega
    generalize (65536 : Int) ^ (4 * k + j) = P at hv ⊢
    rw [← hv]
    have e2 : P * y = P * (65536 * (y / 65536)) + P * (y % 65536) := by rw [← Int.mul_add, ← e]
    omega
  · have e : (65536 : Int) ^ (4 - j) = 65536 ^ (4 - (j + 1)) * 65536 := by rw [← Int.pow_succ]; congr 1; omega
    rw [e] at hlt
    generalize (65536 : Int) ^ (4 - (j + 1)) = P at hlt ⊢
    omega

theorem in_end {ds zs : List Int} {k : Nat} {y : Int} (hk : k < zs.length) (hv : val 65536 ds + 65536 ^ (4 * k + 4) * y = val 18446744073709551616 (zs.take k) + 65536 ^ (4 * k) * zs.getD k 0) (hy : 0 ≤ y) (hlt : y < 65536 ^ (4 - 4)) :
    val 65536 ds = val 18446744073709551616 (zs.take (k + 1)) := by
  have e : y = 0 := by simp at hlt; omega
  subst e
  rw [val_take_succ _ _ _ hk, show (18446744073709551616 : Int) = 65536 ^ 4 by decide, ← Int.pow_mul]
  rw [show (18446744073709551616 : Int) = 65536 ^ 4 by decide] at hv
  omega

set_option maxHeartbeats 800000 in
theorem in_any (a : Option Addr) (len cap : Nat) (zs : List Int) (w : World) (h : Nums w a len cap zs) (hn : len ≤ 1000) :
    Calls Try.prog 29 #[.slice a len cap] w fun e w' => ∃ a' n cap' ds, e = .returned (.slice a' n cap') ∧ Nums w' a' n cap' ds ∧ Digs 65536 ds ∧ Top ds ∧ val 65536 ds = val 18446744073709551616 zs ∧ Below w.heap.size w w' := by
  have HL : Hid (zs.length = len) := h.hlen
  have hc := h.cells
  have HW : Hid (Digs 18446744073709551616 zs) := h.word
  clear h
  go_enter Try.func29, Try.ntmps29
  go_wp2
  go_loopw [3, 4] (fun v i wr => ∃ k : Nat, k ≤ len ∧ i = .int .i64 k ∧ ∃ ds, Own wr w.heap.size v ds ∧ ds.length = 4 * k ∧ Digs 65536 ds ∧ val 65536 ds = val 18446744073709551616 (zs.take k) ∧ Below w.heap.size w wr) (fun _ i _ => len - (intOf i).toNat)
  case atStart => exact ⟨0, Nat.zero_le _, rfl, [], Own.nil _ _, rfl, Digs.nil _, rfl, Below.refl _ _⟩
  case round =>
    obtain ⟨k, hk, rfl, ds, hown, hdl, hdd, hdv, hb⟩ := hrel
    have HD : Hid (ds.length = 4 * k ∧ Digs 65536 ds ∧ val 65536 ds = val 18446744073709551616 (zs.take k)) := ⟨hdl, hdd, hdv⟩
    clear hdl hdd hdv
    by_cases hlt : k < len
    · obtain ⟨b, off, rfl, hcell⟩ := hc (by omega)
      have hlt1 := World.block_lt_of_cell? w _ (hcell 0 (by omega))
      obtain ⟨x, hx⟩ : ∃ x, x = zs.getD k 0 := ⟨_, rfl⟩
      have c1 : wr.cell? ⟨b, off + k, none⟩ = some (.int .u64 x) := by rw [hx]; exact (hb.cell (p := ⟨b, off + k, none⟩) hlt1).trans (hcell k hlt)
      have hxw : 0 ≤ x ∧ x < 18446744073709551616 := by rw [hx]; exact HW.out.getD (by decide) k
      have HX : Hid (x = zs.getD k 0) := hx
      clear hx
      have hlti : (k : Int) < (len : Int) := by omega
      go_wp2
      go_loopw [3, 5, 6] (fun v x' jj wq => ∃ j : Nat, j ≤ 4 ∧ jj = .int .i64 j ∧ ∃ es y, x' = .int .u64 y ∧ Own wq w.heap.size v es ∧ es.length = 4 * k + j ∧ Digs 65536 es ∧
          val 65536 es + 65536 ^ (4 * k + j) * y = val 18446744073709551616 (zs.take k) + 65536 ^ (4 * k) * zs.getD k 0 ∧ 0 ≤ y ∧ y < 65536 ^ (4 - j) ∧ y < 18446744073709551616 ∧ Below w.heap.size w wq) (fun _ _ jj _ => 4 - (intOf jj).toNat)
      case atStart => exact ⟨0, by omega, rfl, ds, x, rfl, hown, HD.out.1, HD.out.2.1, by rw [HX.out, HD.out.2.2]; rfl, hxw.1, by simpa using hxw.2, hxw.2, hb⟩
      case round =>
        obtain ⟨j, hj, rfl, es, y, rfl, hown', hel, hed, hev, hy0, hylt, hyw, hb'⟩ := hrel
        have HE : Hid (es.length = 4 * k + j ∧ Digs 65536 es ∧ val 65536 es + 65536 ^ (4 * k + j) * y = val 18446744073709551616 (zs.take k) + 65536 ^ (4 * k) * zs.getD k 0 ∧ y < 65536 ^ (4 - j)) := ⟨hel, hed, hev, hylt⟩
        have helb : es.length < 1000000 := by omega
        clear hel hed hev hylt
        by_cases hj4 : j < 4
        · have R := in_step hj4 HE.out.1 HE.out.2.1 HE.out.2.2.1 hy0 HE.out.2.2.2
          have HR := (show Hid _ from R)
          clear R
          have hj4i : (j : Int) < 4 := by omega
          go_wp2_with (at_builtin; refine wpList_app1 _ rfl _ _ 41 rfl Try.underlying41 w.heap.size _ es rfl (hown'.alloc _) ⟨wr.heap.size, 0, none⟩ (y % 65536) rfl ?c1 helb w ?c2 ?c3 ?_)
          case c1 => simp
          case c2 => have := hb'.size; simp; omega
          case c3 => exact hb'.alloc hb'.size _
          intro v' w1 hown1 hb1
          clear hown' hb'
          go_wp2
          go_roundw
          case rel => exact ⟨j + 1, by omega, by go_num, _, _, rfl, hown1, HR.out.1, HR.out.2.1, HR.out.2.2.1, HR.out.2.2.2.1, HR.out.2.2.2.2, by omega, hb1⟩
          case measure => simp [intOf]; omega
        · obtain rfl : j = 4 := by omega
          have R := in_end (zs := zs) (k := k) (by have := HL.out; omega) HE.out.2.2.1 hy0 HE.out.2.2.2
          have HR := (show Hid _ from R)
          clear R
          go_wp2
          go_roundw
          case rel => exact ⟨k + 1, by omega, by go_num, es, hown', by have := HE.out.1; omega, HE.out.2.1, HR.out, hb'⟩
          case measure => simp [intOf]; omega
    · obtain rfl : k = len := by omega
      have hdd : Digs 18446744073709551616 ds := fun x hx => by have := HD.out.2.1 x hx; omega
      obtain ⟨a1, cap1, rfl, hnums⟩ := hown.nums hdd
      go_wp2_with fail
      refine (cut_any _ _ _ _ _ hnums).mono ?_
      rintro e w' ⟨m, rfl, htr, rfl⟩
      go_wp2_with fail
      go_ret
      exact ⟨_, _, _, ds.take m, rfl, hnums.take htr.le, HD.out.2.1.take m, htr.Top, by rw [htr.val, HD.out.2.2, ← HL.out, List.take_length], hb⟩
end Go.Proofs.Ytennhoalgclhjaa
