/-
  The contract of the document's In: a number as digits of base 65536, of the same value.
-/
import Derived.Test.YtaipkganijofjabOwn
namespace Go.Proofs.Ytaipkganijofjab
open Go.RowKit

theorem Digs.wide {zs : List Int} (h : Digs 65536 zs) : Digs 18446744073709551616 zs := fun x hx => by have := h x hx; omega

theorem in_step {ds : List Int} {k j : Nat} {y R : Int} (hj : j < 4) (hl : ds.length = 4 * k + j) (hd : Digs 65536 ds) (hv : val 65536 ds + 65536 ^ (4 * k + j) * y = R) (hy : 0 ≤ y) (hlt : y < 65536 ^ (4 - j)) :
    (ds ++ [y % 65536]).length = 4 * k + (j + 1) ∧ Digs 65536 (ds ++ [y % 65536]) ∧ val 65536 (ds ++ [y % 65536]) + 65536 ^ (4 * k + (j + 1)) * (y / 65536) = R ∧ 0 ≤ y / 65536 ∧ y / 65536 < 65536 ^ (4 - (j + 1)) := by
  refine ⟨by simp [hl]; omega, hd.snoc ⟨by omega, by omega⟩, ?_, by omega, ?_⟩
  · rw [val_snoc, hl, show 4 * k + (j + 1) = (4 * k + j) + 1 by omega, Int.pow_succ, Int.mul_assoc]
    have e : y = 65536 * (y / 65536) + y % 65536 := by omega
    generalize (65536 : Int) ^ (4 * k + j) = P at hv ⊢
    rw [← hv]
    have e2 : P * y = P * (65536 * (y / 65536)) + P * (y % 65536) := by rw [← Int.mul_add, ← e]
    omega
  · have e : (65536 : Int) ^ (4 - j) = 65536 ^ (4 - (j + 1)) * 65536 := by rw [← Int.pow_succ]; congr 1; omega
    rw [e] at hlt
    generalize (65536 : Int) ^ (4 - (j + 1)) = P at hlt ⊢
    omega

theorem in_end {ds zs : List Int} {k : Nat} {y : Int} (hk : k < zs.length) (hv : val 65536 ds + 65536 ^ (4 * k + 4) * y = val 18446744073709551616 (zs.take k) + 65536 ^ (4 * k) * zs.getD k 0) (hy : 0 ≤ y) (hlt : y < 65536 ^ (4 - 4)) :
    val 65536 ds = val 18446744073709551616 (zs.take (k + 1)) := by
  have e : y = 0 := by simp at hlt; omega
  subst e
  rw [val_take_succ _ _ _ hk, show (18446744073709551616 : Int) = 65536 ^ 4 by decide, ← Int.pow_mul]
  rw [show (18446744073709551616 : Int) = 65536 ^ 4 by decide] at hv
  omega

set_option maxHeartbeats 800000 in
theorem in_any (a : Option Addr) (len cap : Nat) (zs : List Int) (w : World) (h : Nums w a len cap zs) (hn : len ≤ 1000) :
    Calls Try.prog 48 #[.slice a len cap] w fun e w' => ∃ a' n cap' ds, e = .returned (.slice a' n cap') ∧ Nums w' a' n cap' ds ∧ Digs 65536 ds ∧ Top ds ∧ val 65536 ds = val 18446744073709551616 zs ∧ Below w.heap.size w w' := by
  have HL : Hid (zs.length = len) := h.hlen
  have hc := h.cells
  have HW : Hid (Digs 18446744073709551616 zs) := h.word
  clear h
  go_enter Try.func48, Try.ntmps48
  go_wp2
  go_loopw [3, 4] (fun v i wr => ∃ k : Nat, k ≤ len ∧ i = .int .i64 k ∧ ∃ ds, Own wr w.heap.size v ds ∧ ds.length = 4 * k ∧ Digs 65536 ds ∧ val 65536 ds = val 18446744073709551616 (zs.take k) ∧ Below w.heap.size w wr) (fun _ i _ => len - (intOf i).toNat)
  case atStart => exact ⟨0, Nat.zero_le _, rfl, [], Own.nil _ _, rfl, Digs.nil _, rfl, Below.refl _ _⟩
  case round =>
    obtain ⟨k, hk, rfl, ds, hown, hdl, hdd, hdv, hb⟩ := hrel
    have HD : Hid (ds.length = 4 * k ∧ Digs 65536 ds ∧ val 65536 ds = val 18446744073709551616 (zs.take k)) := ⟨hdl, hdd, hdv⟩
    clear hdl hdd hdv
    by_cases hlt : k < len
    · obtain ⟨b, off, rfl, hcell⟩ := hc (by omega)
      have hlt1 := World.block_lt_of_cell? w _ (hcell 0 (by omega))
      obtain ⟨x, hx⟩ : ∃ x, x = zs.getD k 0 := ⟨_, rfl⟩
      have c1 : wr.cell? ⟨b, off + k, none⟩ = some (.int .u64 x) := by rw [hx]; exact (hb.cell (p := ⟨b, off + k, none⟩) hlt1).trans (hcell k hlt)
      have hxw : 0 ≤ x ∧ x < 18446744073709551616 := by rw [hx]; exact HW.out.getD (by decide) k
      have HX : Hid (x = zs.getD k 0) := hx
      clear hx
      have hlti : (k : Int) < (len : Int) := by omega
      go_wp2
      go_loopw [3, 5, 6] (fun v x' jj wq => ∃ j : Nat, j ≤ 4 ∧ jj = .int .i64 j ∧ ∃ es y, x' = .int .u64 y ∧ Own wq w.heap.size v es ∧ es.length = 4 * k + j ∧ Digs 65536 es ∧
          val 65536 es + 65536 ^ (4 * k + j) * y = val 18446744073709551616 (zs.take k) + 65536 ^ (4 * k) * zs.getD k 0 ∧ 0 ≤ y ∧ y < 65536 ^ (4 - j) ∧ y < 18446744073709551616 ∧ Below w.heap.size w wq) (fun _ _ jj _ => 4 - (intOf jj).toNat)
      case atStart => exact ⟨0, by omega, rfl, ds, x, rfl, hown, HD.out.1, HD.out.2.1, by rw [HX.out, HD.out.2.2]; rfl, hxw.1, by simpa using hxw.2, hxw.2, hb⟩
      case round =>
        obtain ⟨j, hj, rfl, es, y, rfl, hown', hel, hed, hev, hy0, hylt, hyw, hb'⟩ := hrel
        have HE : Hid (es.length = 4 * k + j ∧ Digs 65536 es ∧ val 65536 es + 65536 ^ (4 * k + j) * y = val 18446744073709551616 (zs.take k) + 65536 ^ (4 * k) * zs.getD k 0 ∧ y < 65536 ^ (4 - j)) := ⟨hel, hed, hev, hylt⟩
        have helb : es.length < 1000000 := by omega
        clear hel hed hev hylt
        by_cases hj4 : j < 4
        · have R := in_step hj4 HE.out.1 HE.out.2.1 HE.out.2.2.1 hy0 HE.out.2.2.2
          have HR := (show Hid _ from R)
          clear R
          have hj4i : (j : Int) < 4 := by omega
          go_wp2_with (at_builtin; refine wpList_app1 _ rfl _ _ 62 rfl Try.underlying62 w.heap.size _ es rfl (hown'.alloc _) ⟨wr.heap.size, 0, none⟩ (y % 65536) rfl ?c1 helb w ?c2 ?c3 ?_)
          case c1 => simp
          case c2 => have := hb'.size; simp; omega
          case c3 => exact hb'.alloc hb'.size _
          intro v' w1 hown1 hb1
          clear hown' hb'
          go_wp2
          go_roundw
          case rel => exact ⟨j + 1, by omega, by go_num, _, _, rfl, hown1, HR.out.1, HR.out.2.1, HR.out.2.2.1, HR.out.2.2.2.1, HR.out.2.2.2.2, by omega, hb1⟩
          case measure => simp [intOf]; omega
        · obtain rfl : j = 4 := by omega
          have R := in_end (zs := zs) (k := k) (by have := HL.out; omega) HE.out.2.2.1 hy0 HE.out.2.2.2
          have HR := (show Hid _ from R)
          clear R
          go_wp2
          go_roundw
          case rel => exact ⟨k + 1, by omega, by go_num, es, hown', by have := HE.out.1; omega, HE.out.2.1, HR.out, hb'⟩
          case measure => simp [intOf]; omega
    · obtain rfl : k = len := by omega
      have hdd : Digs 18446744073709551616 ds := fun x hx => by have := HD.out.2.1 x hx; omega
      obtain ⟨a1, cap1, rfl, hnums⟩ := hown.nums hdd
      go_wp2_with fail
      refine (cut_any _ _ _ _ _ hnums).mono ?_
      rintro e w' ⟨m, rfl, htr, rfl⟩
      go_wp2_with fail
      go_ret
      exact ⟨_, _, _, ds.take m, rfl, hnums.take htr.le, HD.out.2.1.take m, htr.Top, by rw [htr.val, HD.out.2.2, ← HL.out, List.take_length], hb⟩
end Go.Proofs.Ytaipkganijofjab
