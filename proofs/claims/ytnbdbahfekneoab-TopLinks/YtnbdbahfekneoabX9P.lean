/-
  What stage 9's laws ask of the program's reader.
  Contracts of the program's Number, Int and Bytes (codec).
  The program's reader in memory; contracts of its rest, first, New and Left, and of slices.Clone of bytes.
  The program's reader: Number and Int.
  The program's reader: Bytes; and that the reader is as the laws ask.
-/
import Derived.Test.YtnbdbahfekneoabC9A
import Derived.Test.YtnbdbahfekneoabR9B
import Derived.Test.YtnbdbahfekneoabC9C
import Derived.WalkMore
import Derived.Deep.RegionWith
import Derived.BigRegion
namespace Go.Proofs.Ytnbdbahfekneoab
open Go.RowKit

/-- At tells where a reader of the program's lies, and which bytes are not read. -/
structure RdN9 (At : World → Nat → List Int → Prop) : Prop where
  lt : ∀ {w : World} {g : Nat} {L : List Int}, At w g L → g < w.heap.size
  head : ∀ {w : World} {g : Nat} {L : List Int}, At w g L → Head w g
  below : ∀ {w w' : World} {g : Nat} {L : List Int}, At w g L → Below w.heap.size w w' → At w' g L
  apart : ∀ {w w' : World} {g k : Nat} {L : List Int}, At w g L → w.grownBy w' (some k) → Head w k → g ≠ k → At w' g L
  new : ∀ (a : Option Addr) (l c : Nat) (bs : List Int) (w : World), Byts w a l c bs → (a = none → c = 0) → l ≤ 140737488355300 → Calls Try.prog 29 #[.slice a l c] w fun e w' => ∃ g, e = .returned (.pointer (some ⟨g, 0, none⟩)) ∧ w.heap.size ≤ g ∧ At w' g bs ∧ Below w.heap.size w w'
  left : ∀ (g : Nat) (L : List Int) (w : World), At w g L → Calls Try.prog 53 #[.pointer (some ⟨g, 0, none⟩)] w fun e w' => e = .returned (.int .i64 (L.length : Int)) ∧ Below w.heap.size w w'
  num : ∀ (g : Nat) (L : List Int) (most : Nat) (w : World), At w g L → most < 18446744073709551616 → Calls Try.prog 63 #[.pointer (some ⟨g, 0, none⟩), .int .u64 most] w fun e w' => NumT At w g L most e w'
end Go.Proofs.Ytnbdbahfekneoab

namespace Go.Proofs.Ytnbdbahfekneoab
open Go.RowKit

set_option maxRecDepth 20000 in
set_option maxHeartbeats 1600000 in
theorem c9number_any (n : Nat) (w : World) (hn : n < 18446744073709551616) : Calls Try.prog 39 #[.int .u64 n] w fun e w' => CodeT n w e w' := by
  have HN : Hid (n < 18446744073709551616) := hn
  go_enter Try.func39, Try.ntmps39
  go_wp2
  go_loopw [0, 3] (fun v0 v3 wr => ∃ (m : Nat) (out : List Int), v0 = .int .u64 m ∧ BOwn wr w.heap.size v3 out ∧ Hid (m < 18446744073709551616 ∧ ∀ c, IsCode c m → IsCode (out ++ c) n) ∧ Below w.heap.size w wr) (fun v0 _ _ => (intOf v0).toNat)
  case atStart => exact ⟨n, [], rfl, BOwn.nil _ _, ⟨hn, fun c hc => hc⟩, Below.refl _ _⟩
  case round =>
    clear hn
    obtain ⟨m, out, rfl, hown, HI, hbr⟩ := hrel
    have hm := HI.out.1
    have hol : out.length < 1000000 := by
      obtain ⟨c, hc⟩ := code_any hm
      have := code_10 (HI.out.2 c hc) HN.out
      simp at this
      omega
    have hsz := hbr.size
    by_cases hge : 128 ≤ m
    · have hgi : (128 : Int) ≤ (m : Int) := by omega
      have HS : Hid (m / 128 < 18446744073709551616 ∧ ∀ c, IsCode c (m / 128) → IsCode ((out ++ [((m % 128 : Nat) : Int) + 128]) ++ c) n) := ⟨by omega, fun c hc => by
        rw [List.append_assoc]
        exact HI.out.2 _ (IsCode.cons hc.nonempty rfl (by omega) hc)⟩
      clear HI
      have hy : 0 ≤ (m : Int) % 128 ∧ (m : Int) % 128 < 128 := by omega
      go_wp2_with (at_builtin; refine wpList_appB1 _ rfl _ _ 32 rfl Try.underlying32 w.heap.size _ _ rfl (hown.alloc _) ⟨wr.heap.size, 0, none⟩ ((m : Int) % 128 + 128) rfl ?c1 hol w ?c2 ?c3 ?_)
      case c1 => simp
      case c2 => simp; omega
      case c3 => exact hbr.alloc hbr.size _
      intro v' w2 hown2 hb2
      clear hown hbr
      go_wp2
      go_roundw
      case rel => exact ⟨m / 128, _, by simp, hown2, by
        have e : (m : Int) % 128 + 128 = ((m % 128 : Nat) : Int) + 128 := by omega
        rw [e]
        exact HS, hb2⟩
      case measure => simp [intOf]; omega
    · have hgi : decide ((128 : Int) ≤ (m : Int)) = false := decide_eq_false (by omega)
      have HS : Hid (IsCode (out ++ [(m : Int)]) n) := HI.out.2 _ ⟨rfl, by omega⟩
      clear HI
      have hy : 0 ≤ (m : Int) ∧ (m : Int) < 256 := by omega
      go_wp2_with (at_builtin; refine wpList_appB1 _ rfl _ _ 32 rfl Try.underlying32 w.heap.size _ _ rfl (hown.alloc _) ⟨wr.heap.size, 0, none⟩ (m : Int) rfl ?c1 hol w ?c2 ?c3 ?_)
      case c1 => simp
      case c2 => simp; omega
      case c3 => exact hbr.alloc hbr.size _
      intro v' w2 hown2 hb2
      clear hown hbr
      go_wp2
      go_ret
      exact ⟨v', _, rfl, hown2, HS.out, hb2⟩
theorem c9number_z (z : Int) (n : Nat) (hz : z = (n : Int)) (w : World) (hn : n < 18446744073709551616) : Calls Try.prog 39 #[.int .u64 z] w fun e w' => CodeT n w e w' := by
  subst hz
  exact c9number_any n w hn

set_option maxHeartbeats 800000 in
theorem c9bytes_any (a : Option Addr) (la ca : Nat) (bs : List Int) (w : World) (h : Byts w a la ca bs) (hnil : a = none → ca = 0) (hlen : la ≤ 140737488355300) : Calls Try.prog 40 #[.slice a la ca] w fun e w' => CodeB bs w e w' := by
  have hl := h.hlen
  have hcap := h.hcap
  have hmax := h.hmax
  unfold maxLen at hmax
  have HL : Hid (bs.length = la) := hl
  clear hl
  go_enter Try.func40, Try.ntmps40
  go_wp2_with fail
  refine (c9number_any la _ (by omega)).mono ?_
  rintro e w1 ⟨v, c, rfl, h1, h2, h3⟩
  have hc := code_10 h2 (by omega)
  have hb1 := h.below h3
  have H2 : Hid (IsCode c bs.length) := by show IsCode _ _; rw [HL.out]; exact h2
  clear h h2
  go_wp2_with (at_builtin; refine wpList_appBW _ rfl _ _ 32 rfl Try.underlying32 w.heap.size _ c rfl h1 a la ca bs rfl hb1 hnil ?c1 w ?c2 h3 ?_)
  case c1 => omega
  case c2 => exact h3.size
  intro v' w2 hown2 hb2 _
  clear h1 h3 hb1
  go_wp2
  go_ret
  exact ⟨v', c, rfl, hown2, H2.out, hb2⟩

theorem codeR9 {P : List Int → Prop} {w w' : World} {v : Value} {c : List Int} (h : BOwn w' w.heap.size v c) (hd : Digs 256 c) (hP : P c) (hb : Below w.heap.size w w') : CodeR P w (.returned v) w' := by
  obtain ⟨a, n, cp, rfl, hB, -, nn⟩ := h.fresh hd
  exact ⟨a, n, cp, c, rfl, hB, hP, nil9 nn, hb⟩
theorem num_ok9 : NumOk9 := fun n w hn => (c9number_any n w hn).mono fun e w' ⟨v, c, he, h1, h2, h3⟩ => by
  subst he
  exact codeR9 h1 h2.digs h2 h3
theorem byt_ok9 : BytOk9 := fun a la ca bs w h hnil hlen => (c9bytes_any a la ca bs w h hnil hlen).mono fun e w' ⟨v, c, he, h1, h2, h3⟩ => by
  subst he
  exact codeR9 h1 (h2.digs.app9 h.digs) ⟨c, h2, rfl⟩ h3
end Go.Proofs.Ytnbdbahfekneoab

namespace Go.Proofs.Ytnbdbahfekneoab
open Go.RowKit

set_option maxHeartbeats 400000 in
theorem clone9_any (a : Option Addr) (len cap : Nat) (zs : List Int) (w : World) (h : Byts w a len cap zs) (hn : len ≤ 140737488355300) :
    Calls Try.prog 21 #[.slice a len cap] w fun e w' => ∃ a' n cap', e = .returned (.slice a' n cap') ∧ (Byts w' a' n cap' zs ∧ (a' = none → cap' = 0) ∧ ∀ ad, a' = some ad → 0 < n → w.heap.size ≤ ad.block ∧ IsB w' ad.block) ∧ Below w.heap.size w w' := by
  have hd := h.digs
  cases a with
  | none =>
    have hm : len = 0 := by
      rcases Nat.eq_zero_or_pos len with h0 | h0
      · exact h0
      · obtain ⟨b, off, e, _⟩ := h.cells h0; cases e
    subst hm
    have e : zs = [] := List.eq_nil_of_length_eq_zero h.hlen
    subst e
    have heq := fun wx => Lib.run_eql_slice_nil (P := Try.prog) wx 32 5 none 0 cap 0 0 Try.underlying32
    go_enter Try.func21, Try.ntmps21
    go_wp2
    go_ret
    exact ⟨none, 0, 0, rfl, ⟨Byts.nil _, fun _ => rfl, fun _ e => (by cases e)⟩, Below.refl _ _⟩
  | some x =>
    have heq := fun wx => Lib.run_eql_slice_nil (P := Try.prog) wx 32 5 (some x) len cap 0 0 Try.underlying32
    go_enter Try.func21, Try.ntmps21
    have hown := BOwn.empty w
    have hb0 := (Below.refl w.heap.size w).alloc (Nat.le_refl _) (.cells #[] 5)
    have h1 := h.below hb0
    go_wp2_with (at_builtin; refine wpList_appBW _ rfl _ _ 32 rfl Try.underlying32 w.heap.size _ [] rfl hown (some x) len cap zs rfl h1 ?_ ?_ w ?_ hb0 ?_)
    · intro e; cases e
    · simp; omega
    · simp
    · intro v' w2 hown1 hb1 _
      obtain ⟨a1, n1, cap1, rfl, hn1, qb, nn⟩ := hown1.fresh hd
      have HO : Hid (Byts w2 a1 n1 cap1 zs ∧ (a1 = none → cap1 = 0) ∧ ∀ ad, a1 = some ad → 0 < n1 → w.heap.size ≤ ad.block ∧ IsB w2 ad.block) := ⟨hn1, nil9 nn, fun ad e h0 => by
        obtain ⟨q, e2, hq, cur, hqc, -⟩ := qb h0
        rw [e] at e2
        cases e2
        exact ⟨hq, cur, hqc⟩⟩
      clear hown1 hown h1 hb0 qb nn hn1
      go_wp2
      go_ret
      exact ⟨_, _, _, rfl, HO.out, hb1⟩

/-- At block g lies a reader of the program's, whose bytes that are not read are L. -/
def CRdQ (Q : Nat → Prop) (w : World) (g : Nat) (L : List Int) : Prop := ∃ a l c, l ≤ 140737488355300 ∧ w.heap[g]? = some (.cells #[.slice a l c] 99 (0, 0)) ∧ Byts w a l c L ∧ ((a = none → c = 0) ∧ ∀ ad, a = some ad → 0 < l → Q ad.block)
abbrev CRdAt := CRdQ (fun _ => True)
theorem CRdQ.lt {Q : Nat → Prop} {w : World} {g : Nat} {L : List Int} (h : CRdQ Q w g L) : g < w.heap.size := by
  obtain ⟨a, l, c, _, h1, _⟩ := h
  exact (Array.getElem?_eq_some_iff.1 h1).1
theorem CRdQ.head {Q : Nat → Prop} {w : World} {g : Nat} {L : List Int} (h : CRdQ Q w g L) : Head w g := by
  obtain ⟨a, l, c, _, h1, _⟩ := h
  refine ⟨_, _, h1, fun j x => ?_⟩
  match j with
  | 0 => simp
  | j + 1 => simp
theorem CRdQ.below {Q : Nat → Prop} {w w' : World} {g : Nat} {L : List Int} (h : CRdQ Q w g L) (hb : Below w.heap.size w w') : CRdQ Q w' g L := by
  have hl := h.lt
  obtain ⟨a, l, c, h0, h1, h2, h3⟩ := h
  exact ⟨a, l, c, h0, (hb.block g hl).trans h1, h2.below hb, h3⟩
theorem CRdQ.apart {Q : Nat → Prop} {w w' : World} {g k : Nat} {L : List Int} (h : CRdQ Q w g L) (hg : w.grownBy w' (some k)) (hk : Head w k) (hne : g ≠ k) : CRdQ Q w' g L := by
  have hl := h.lt
  obtain ⟨a, l, c, h0, h1, h2, h3⟩ := h
  exact ⟨a, l, c, h0, (hg.block g hl (fun e => hne (by simpa using e))).trans h1, h2.head hg hk, h3⟩

theorem CRdQ.now {Q : Nat → Prop} {w : World} {g : Nat} {L : List Int} (h : CRdQ Q w g L) : CRdQ (· < w.heap.size) w g L := by
  obtain ⟨a, l, c, h0, h1, h2, h3, _⟩ := h
  refine ⟨a, l, c, h0, h1, h2, h3, fun ad e hl => ?_⟩
  obtain ⟨b, off, rfl, hc⟩ := h2.cells hl
  cases e
  exact World.block_lt_of_cell? _ _ (hc 0 hl)
theorem CRdQ.mono {Q Q' : Nat → Prop} {w : World} {g : Nat} {L : List Int} (h : CRdQ Q w g L) (hQ : ∀ b, Q b → Q' b) : CRdQ Q' w g L := by
  obtain ⟨a, l, c, h0, h1, h2, h3, h4⟩ := h
  exact ⟨a, l, c, h0, h1, h2, h3, fun ad e hl => hQ _ (h4 ad e hl)⟩
/-- What others turn, at no block that the reader has, leaves it. -/
theorem CRdQ.other {B : Nat} {w w' : World} {g : Nat} {L : List Int} (h : CRdQ (· < B) w g L) (hg : g < B) (hb : Below B w w') : CRdQ (· < B) w' g L := by
  obtain ⟨a, l, c, h0, h1, h2, h3, h4⟩ := h
  refine ⟨a, l, c, h0, (hb.block g hg).trans h1, ⟨h2.hlen, h2.hcap, h2.hmax, fun hl => ?_, h2.word⟩, h3, h4⟩
  obtain ⟨b, off, rfl, hc⟩ := h2.cells hl
  refine ⟨b, off, rfl, fun i hi => ?_⟩
  rw [World.cell?_of_block (hb.block b (h4 _ rfl hl))]
  exact hc i hi

set_option maxHeartbeats 800000 in
theorem c9new_any (a : Option Addr) (l c : Nat) (bs : List Int) (w : World) (h : Byts w a l c bs) (hlen : l ≤ 140737488355300) : Calls Try.prog 29 #[.slice a l c] w fun e w' => ∃ g, e = .returned (.pointer (some ⟨g, 0, none⟩)) ∧ w.heap.size ≤ g ∧ CRdAt w' g bs ∧ Below w.heap.size w w' := by
  have HL : Hid (bs.length = l ∧ l ≤ 140737488355300) := ⟨h.hlen, hlen⟩
  go_enter Try.func29, Try.ntmps29
  go_wp2_with fail
  refine (clone9_any _ _ _ _ _ h hlen).mono ?_
  rintro e w1 ⟨a1, l1, c1, rfl, ⟨k1, k2, -⟩, kb⟩
  have HK : Hid (CRdAt (w1.alloc (.cells #[.slice a1 l1 c1] 99)) w1.heap.size bs ∧ Below w.heap.size w (w1.alloc (.cells #[.slice a1 l1 c1] 99)) ∧ w.heap.size ≤ w1.heap.size) := ⟨⟨a1, l1, c1, by have := k1.hlen; have := HL.out; omega, heap_alloc_new _ _, k1.below ((Below.refl _ _).alloc (Nat.le_refl _) _), k2, fun _ _ _ => trivial⟩, kb.alloc kb.size _, kb.size⟩
  clear k1 k2 kb h
  go_wp2
  go_ret
  exact ⟨_, rfl, HK.out.2.2, HK.out.1, HK.out.2.1⟩

set_option maxHeartbeats 400000 in
theorem c9rest_any (g : Nat) (a : Option Addr) (l c : Nat) (w : World) (hc : w.cell? ⟨g, 0, none⟩ = some (.slice a l c)) :
    Calls Try.prog 67 #[.pointer (some ⟨g, 0, none⟩)] w fun e w' => e = .returned (.slice a l c) ∧ w = w' := by
  go_enter Try.func67, Try.ntmps67
  go_wp2
  go_ret
  exact ⟨rfl, rfl⟩

set_option maxHeartbeats 400000 in
theorem c9left_any {Q : Nat → Prop} (g : Nat) (L : List Int) (w : World) (h : CRdQ Q w g L) :
    Calls Try.prog 53 #[.pointer (some ⟨g, 0, none⟩)] w fun e w' => e = .returned (.int .i64 (L.length : Int)) ∧ w = w' := by
  obtain ⟨a, l, c, h0, h1, h2, h3⟩ := h
  have hl := h2.hlen
  have hc : w.cell? ⟨g, 0, none⟩ = some (.slice a l c) := by rw [cell_of_row w g 0 _ _ _ h1]; rfl
  rw [hl]
  clear h1 h2 hl h3
  go_enter Try.func53, Try.ntmps53
  go_wp2_with fail
  refine (c9rest_any g a l c _ hc).mono ?_
  rintro e w1 ⟨rfl, rfl⟩
  go_wp2
  go_ret
  exact ⟨rfl, rfl⟩

theorem pow_128 (k : Nat) : (2 : Int) ^ (7 * k) = ((128 ^ k : Nat) : Int) := by
  rw [Int.pow_mul]
  simp
theorem or9 {N D k : Nat} (hN : N < 128 ^ k) (hN64 : N < 18446744073709551616) (h : D * 128 ^ k < 18446744073709551616) : bits .or .u64 (N : Int) ((D : Int) * 2 ^ (7 * k)) = ((N + D * 128 ^ k : Nat) : Int) := by
  have e : (D : Int) * 2 ^ (7 * k) = ((D * 128 ^ k : Nat) : Int) := by rw [pow_128, Int.natCast_mul]
  rw [or_low (Int.natCast_nonneg D) (by rw [e]; exact Int.ofNat_lt.2 h) (Int.natCast_nonneg N) (by rw [pow_128]; exact Int.ofNat_lt.2 hN) (by omega), e, Int.natCast_add]

set_option maxRecDepth 20000 in
set_option maxHeartbeats 3200000 in
theorem c9first_any (a : Option Addr) (l c : Nat) (L : List Int) (w : World) (h : Byts w a l c L) :
    Calls Try.prog 71 #[.slice a l c] w fun e w' => ∃ n k : Nat, e = .returned (.tuple #[.int .u64 n, .int .i64 k]) ∧ NextT L n k ∧ w = w' := by
  have hl := h.hlen
  have hm := h.hmax
  have hcp := h.hcap
  unfold maxLen at hm
  have HBy : Hid (Byts w a l c L) := h
  have HLl : Hid (L.length = l) := hl
  clear hl h
  go_enter Try.func71, Try.ntmps71
  go_wp2_with fail
  go_step3
  go_wp2_with fail
  go_step3
  go_wp2_with fail
  go_loopw [4, 9] (fun v4 v9 wr => ∃ k N : Nat, v4 = .int .u64 N ∧ v9 = .int .i64 k ∧ k ≤ 9 ∧ N < 18446744073709551616 ∧ Hid (k ≤ L.length ∧ Hi (L.take k) ∧ N = loV (L.take k)) ∧ w = wr) (fun _ v9 _ => 10 - (intOf v9).toNat)
  case atStart => exact ⟨0, 0, rfl, rfl, by omega, by omega, ⟨by omega, fun x hx => by simp at hx, by simp [loV]⟩, rfl⟩
  case round =>
    obtain ⟨k, N, rfl, rfl, hk, hN, HI, rfl⟩ := hrel
    obtain ⟨i1, i2, i3⟩ := HI.out
    have hLl := HLl.out
    by_cases hend : k < l
    · have hlt : (k : Int) < (l : Int) := by omega
      obtain ⟨b, off, rfl, hcell⟩ := HBy.out.cells (by omega)
      have hx := hcell k hend
      have hwd : 0 ≤ L.getD k 0 ∧ L.getD k 0 < 256 := HBy.out.digs.getD (by decide) k
      obtain ⟨X, hX⟩ := Int.eq_ofNat_of_zero_le hwd.1
      rw [hX] at hx hwd
      have hX256 : X < 256 := by omega
      have hsn := take_snoc9 (show k < L.length by omega)
      have hdc := drop_cons9 (show k < L.length by omega)
      rw [hX] at hsn hdc
      have hlen : (L.take k).length = k := by simp; omega
      clear hcell hwd
      have hk7 : IntKind.i64.wrap (7 * (k : Int)) = ((7 * k : Nat) : Int) := by simp [IntKind.wrap, IntKind.signed, IntKind.bits]; omega
      have hNl : N < 128 ^ k := by have := loV_lt i2; rw [hlen, ← i3] at this; exact this
      by_cases hX0 : X = 0
      · subst hX0
        by_cases hk0 : k = 0
        · subst hk0
          have hN0 : N = 0 := by rw [i3]; simp [loV]
          subst hN0
          have HF : Hid (NextT L 0 1) := .inl ⟨by omega, by omega, by
            have e : L.take (0 + 1) = [((0 : Nat) : Int)] := by rw [hsn]; simp
            rw [show (1 : Nat) = 0 + 1 from rfl, e]
            exact ⟨rfl, by omega⟩⟩
          have hx' : w.cell? ⟨b, off, none⟩ = some (.int .u8 0) := by simpa using hx
          clear i1 i2 i3 HI HBy hsn hdc hlen hX hk7 hNl hLl hx
          go_wp2
          rw [Exit.noGoto_ret]
          go_ret2
          exact ⟨0, 1, by rfl, HF.out, rfl⟩
        · have hki : (0 : Int) < (k : Int) := by omega
          have HF : Hid (NextT L 0 0) := .inr ⟨rfl, rfl, by
            rw [hdc]
            exact no_zero i2 (fun e => by rw [e] at hlen; simp at hlen; omega)⟩
          clear i1 i2 i3 HI HBy hsn hdc hlen hX hk7 hNl hLl hk0
          go_wp2
          rw [Exit.noGoto_ret]
          go_ret2
          exact ⟨0, 0, rfl, HF.out, rfl⟩
      · have hxi : ((X : Int) == 0) = false := by simp; omega
        by_cases hbad : k = 9 ∧ 1 < X
        · obtain ⟨rfl, hX1⟩ := hbad
          have hXi : (1 : Int) < (X : Int) := by omega
          have HF : Hid (NextT L 0 0) := .inr ⟨rfl, rfl, by
            by_cases h128 : 128 ≤ X
            · have e : L = L.take (9 + 1) ++ L.drop (9 + 1) := (List.take_append_drop _ L).symm
              rw [e]
              refine no_long ?_ (by simp; omega)
              rw [hsn]
              exact i2.snoc ⟨by omega, by omega⟩
            · rw [hdc]
              exact no_tenth i2 hlen (by omega)⟩
          clear i1 i2 i3 HI HBy hsn hdc hlen hX hNl hLl hX1
          go_wp2
          rw [Exit.noGoto_ret]
          go_ret2
          exact ⟨0, 0, rfl, HF.out, rfl⟩
        · obtain ⟨m1, m2⟩ := next_bd (D := X % 128) i2 hk (by omega) (by omega) (fun e => by omega)
          rw [← i3] at m2
          have hor := or9 hNl hN m1
          obtain ⟨M, hM⟩ : ∃ M : Nat, M = N + X % 128 * 128 ^ k := ⟨_, rfl⟩
          rw [← hM] at hor m2
          have hor2 : bits .or .u64 (N : Int) (IntKind.u64.wrap ((X : Int) % 128 * 2 ^ (7 * k))) = (M : Int) := by
            have e : (((X % 128 : Nat) : Int)) = (X : Int) % 128 := by simp
            rw [e] at hor
            rw [← hor]
            congr 1
            rw [pow_128, ← e, ← Int.natCast_mul, wrap64]
            exact Int.emod_eq_of_lt (Int.natCast_nonneg _) (Int.ofNat_lt.2 m1)
          clear hor
          have hgd : decide ((1 : Int) < (X : Int)) = false ∨ (decide ((1 : Int) < (X : Int)) = true ∧ ((k : Int) == 9) = false) := by
            by_cases e : 1 < X
            · right
              exact ⟨decide_eq_true (by omega), by simp; omega⟩
            · left
              exact decide_eq_false (by omega)
          by_cases hmo : X < 128
          · have hmi : (X : Int) < 128 := by omega
            have HF : Hid (NextT L M (k + 1)) := .inl ⟨m2, by omega, by
              rw [hsn, hM, i3, Nat.mod_eq_of_lt hmo]
              have := code_of (p := L.take k) (b := X) i2 hmo (fun _ => hX0)
              rw [hlen] at this
              exact this⟩
            clear i1 i2 i3 HI HBy hsn hdc hlen hX hNl hLl hX0 hbad hM m1 m2
            rcases hgd with g1 | ⟨g1, g2⟩
            all_goals
              go_wp2
              rw [Exit.noGoto_ret]
              go_ret2
              exact ⟨M, k + 1, by simp, HF.out, rfl⟩
          · have hmi : decide ((X : Int) < 128) = false := decide_eq_false (by omega)
            have hk9 : k < 9 := by omega
            have HS : Hid (k + 1 ≤ L.length ∧ Hi (L.take (k + 1)) ∧ M = loV (L.take (k + 1))) := by
              refine ⟨by omega, by rw [hsn]; exact i2.snoc ⟨by omega, by omega⟩, ?_⟩
              rw [hsn, loV_snoc, hlen, hM, i3]
              have e : ((X : Int) - 128).toNat = X % 128 := by omega
              rw [e]
            clear i1 i2 i3 HI HBy hsn hdc hlen hX hNl hLl hX0 hbad hM m1
            rcases hgd with g1 | ⟨g1, g2⟩
            all_goals
              go_wp2
              go_roundw
              case rel => exact ⟨k + 1, M, rfl, by simp, by omega, m2, HS, by first | exact rfl | trivial⟩
              case measure => simp [intOf]; omega
    · have hlt : decide ((k : Int) < (l : Int)) = false := decide_eq_false (by omega)
      have HF : Hid (NextT L 0 0) := .inr ⟨rfl, rfl, by
        have e : L.take k = L := List.take_of_length_le (by omega)
        rw [e] at i2
        exact no_end i2⟩
      clear i1 i2 i3 HI HBy
      go_wp2
      try rw [Exit.noGoto_ret]
      go_ret2
      exact ⟨0, 0, rfl, HF.out, rfl⟩
end Go.Proofs.Ytnbdbahfekneoab

namespace Go.Proofs.Ytnbdbahfekneoab
open Go.RowKit

/-- The reader goes on. -/
theorem crd_put {Q : Nat → Prop} {w wz : World} {g l c k b off : Nat} {L : List Int} (hl : l ≤ 140737488355300) (hk : k ≤ l) (hF : Byts wz (some ⟨b, off, none⟩) l c L)
    (hz : wz.heap[g]? = some (.cells #[.slice (some ⟨b, off, none⟩) l c] 99 (0, 0))) (hb : Below w.heap.size w wz) (a' : Option Addr) (ha : k < c → a' = some ⟨b, off + k, none⟩) (hn : a' ≠ none) (hQ : 0 < l → Q b) :
    CRdQ Q (wz.setCell ⟨g, 0, none⟩ (.slice a' (l - k) (c - k))) g (L.drop k) ∧ w.grownBy (wz.setCell ⟨g, 0, none⟩ (.slice a' (l - k) (c - k))) (some g) := by
  have q := grown_set wz g 0 (.slice a' (l - k) (c - k))
  have hh : Head wz g := ⟨_, _, hz, fun j x => by match j with | 0 => simp | j + 1 => simp⟩
  have hcp := hF.hcap
  have hd := hF.drop hk
  have hd' : Byts wz a' (l - k) (c - k) (L.drop k) := by
    by_cases hc : k < c
    · rw [ha hc]; exact hd
    · exact hd.moved (by omega)
  refine ⟨⟨a', l - k, c - k, by omega, ?_, hd'.head q hh, fun e => absurd e hn, fun ad e hp => ?_⟩, ?_⟩
  · have := heap_setCell_same wz g 0 _ _ (.slice a' (l - k) (c - k)) hz
    simpa using this
  · rw [ha (by omega)] at e
    cases e
    exact hQ (by omega)
  · refine ⟨q.os.trans hb.os, q.tape.trans hb.tape, q.output.trans hb.output, Nat.le_trans hb.size q.size, fun j hj hne => ?_⟩
    rw [q.block j (by have := hb.size; omega) hne, hb.block j hj]

set_option maxRecDepth 20000 in
set_option maxHeartbeats 1600000 in
theorem c9rnum_any {Q : Nat → Prop} (g : Nat) (L : List Int) (most : Nat) (w : World) (h : CRdQ Q w g L) :
    Calls Try.prog 63 #[.pointer (some ⟨g, 0, none⟩), .int .u64 most] w fun e w' => NumT (CRdQ Q) w g L most e w' := by
  have HT : Hid (CRdQ Q w g L) := h
  obtain ⟨a, l, c, h0, h1, h2, h3⟩ := h
  have hc0 : w.cell? ⟨g, 0, none⟩ = some (.slice a l c) := by rw [cell_of_row w g 0 _ _ _ h1]; rfl
  go_enter Try.func63, Try.ntmps63
  go_wp2_with fail
  refine (c9rest_any g a l c _ hc0).mono ?_
  rintro e w1 ⟨rfl, rfl⟩
  go_wp2_with fail
  refine (c9first_any a l c L _ h2).mono ?_
  rintro e w1 ⟨n, k, rfl, hN, rfl⟩
  by_cases hk0 : k = 0
  · subst hk0
    have HR : Hid (NumT (CRdQ Q) w g L most (.returned (.tuple #[.int .u64 0, .int .i64 13])) w) := ⟨0, 13, L, rfl, ⟨n, 0, hN, .inl ⟨.inl rfl, rfl, rfl, rfl⟩⟩, HT.out, World.grownBy.refl _ _⟩
    clear hN HT h1 h2 h3
    go_wp2
    go_ret2
    exact HR.out
  obtain ⟨n1, n2, -⟩ := hN.pos hk0
  have hki : ((k : Int) == 0) = false := by simp; omega
  by_cases hm : most < n
  · have HR : Hid (NumT (CRdQ Q) w g L most (.returned (.tuple #[.int .u64 0, .int .i64 13])) w) := ⟨0, 13, L, rfl, ⟨n, k, hN, .inl ⟨.inr hm, rfl, rfl, rfl⟩⟩, HT.out, World.grownBy.refl _ _⟩
    have hmi : (most : Int) < (n : Int) := by omega
    clear hN HT h1 h2 h3
    go_wp2
    go_ret2
    exact HR.out
  · have hmi : decide ((most : Int) < (n : Int)) = false := decide_eq_false (by omega)
    have hl := h2.hlen
    have hmx := h2.hmax
    have hcp := h2.hcap
    unfold maxLen at hmx
    obtain ⟨b, off, rfl, -⟩ := h2.cells (by omega)
    have hkl : k ≤ l := by omega
    have HR : Hid (∀ a', (k < c → a' = some ⟨b, off + k, none⟩) → a' ≠ none → NumT (CRdQ Q) w g L most (.returned (.tuple #[.int .u64 n, .int .i64 0])) (w.setCell ⟨g, 0, none⟩ (.slice a' (l - k) (c - k)))) := fun a' ha hn => by
      obtain ⟨f2, f3⟩ := crd_put h0 hkl h2 h1 (Below.refl _ _) a' ha hn (fun hp => h3.2 _ rfl hp)
      exact ⟨n, 0, L.drop k, rfl, ⟨n, k, hN, .inr ⟨by omega, rfl, rfl, rfl⟩⟩, f2, f3⟩
    have hf0 : w.frozen? ⟨g, 0, none⟩ = false := frozen_of_row w g 0 _ _ h1
    clear hN HT h1 h2 h3 hl n2
    by_cases hcm : c = k
    · subst hcm
      obtain rfl : l = c := by omega
      clear hcp
      go_wp2
      go_ret2
      have hT := HR.out
      simp only [Nat.sub_self] at hT
      exact hT _ (fun h => absurd h (Nat.lt_irrefl _)) (by simp)
    · have hcm' : k < c := by omega
      go_wp2
      go_ret2
      exact HR.out _ (fun _ => rfl) (by simp)

end Go.Proofs.Ytnbdbahfekneoab

namespace Go.Proofs.Ytnbdbahfekneoab
open Go.RowKit

set_option maxRecDepth 20000 in
set_option maxHeartbeats 3200000 in
theorem c9rbyt_any {Q : Nat → Prop} (g : Nat) (L : List Int) (most : Int) (w : World) (h : CRdQ Q w g L) (hmost : -9223372036854775808 ≤ most ∧ most < 9223372036854775808) :
    Calls Try.prog 64 #[.pointer (some ⟨g, 0, none⟩), .int .i64 most] w fun e w' => BytT (CRdQ Q) w g L most e w' := by
  have HT : Hid (CRdQ Q w g L) := h
  obtain ⟨a, l, c, h0, h1, h2, h3⟩ := h
  have hc0 : w.cell? ⟨g, 0, none⟩ = some (.slice a l c) := by rw [cell_of_row w g 0 _ _ _ h1]; rfl
  go_enter Try.func64, Try.ntmps64
  go_wp2_with fail
  refine (c9rest_any g a l c _ hc0).mono ?_
  rintro e w1 ⟨rfl, rfl⟩
  go_wp2_with fail
  refine (c9first_any a l c L _ h2).mono ?_
  rintro e w1 ⟨n, k, rfl, hN, rfl⟩
  have sn : (k = 0 ∨ most < 0 ∨ most < (n : Int) ∨ L.length - k < n) → Hid (BytT (CRdQ Q) w g L most (.returned (.tuple #[.slice none 0 0, .int .i64 13])) w) := fun hc =>
    ⟨none, 0, 0, [], 13, L, rfl, ⟨Byts.nil _, fun _ => rfl, fun _ e => (by cases e)⟩, ⟨n, k, hN, .inl ⟨hc, rfl, rfl, rfl⟩⟩, HT.out, World.grownBy.refl _ _⟩
  by_cases hk0 : k = 0
  · have HR := sn (.inl hk0)
    have hki : ((k : Int) == 0) = true := by simp; omega
    clear hN HT h1 h2 h3 hk0 sn
    go_wp2
    go_ret2
    exact HR.out
  obtain ⟨n1, n2, -⟩ := hN.pos hk0
  have hki : ((k : Int) == 0) = false := by simp; omega
  by_cases hm0 : most < 0
  · have HR := sn (.inr (.inl hm0))
    clear hN HT h1 h2 h3 hk0 sn
    go_wp2
    go_ret2
    exact HR.out
  have hm0i : decide (most < 0) = false := decide_eq_false hm0
  obtain ⟨M, rfl⟩ : ∃ M : Nat, most = (M : Int) := ⟨most.toNat, by omega⟩
  by_cases hm1 : (M : Int) < (n : Int)
  · have HR := sn (.inr (.inr (.inl hm1)))
    have hm1i : M < n := by omega
    clear hN HT h1 h2 h3 hk0 sn hm0 hm1
    go_wp2
    go_ret2
    exact HR.out
  have hm1i : decide (M < n) = false := decide_eq_false (by omega)
  have hl := h2.hlen
  have hmx := h2.hmax
  have hcp := h2.hcap
  unfold maxLen at hmx
  obtain ⟨q, hq⟩ : ∃ q : Nat, q = L.length - k := ⟨_, rfl⟩
  have hqi : (L.length : Int) - (k : Int) = (q : Int) := by omega
  have hLb : L.length ≤ 140737488355300 := by omega
  by_cases hm2 : q < n
  · have HR := sn (.inr (.inr (.inr (by omega))))
    have hm2i : decide (q < n) = true := decide_eq_true hm2
    clear hN h1 h2 h3 hk0 sn hm0 hm1 hq hl
    go_wp2_with fail
    refine (c9left_any g L _ HT.out).mono ?_
    rintro e w1 ⟨rfl, rfl⟩
    clear HT
    go_wp2
    go_ret2
    exact HR.out
  have hm2i : decide (q < n) = false := decide_eq_false hm2
  obtain ⟨b, off, rfl, -⟩ := h2.cells (by omega)
  obtain ⟨t, ht⟩ : ∃ t : Nat, t = k + n := ⟨_, rfl⟩
  have hti : (k : Int) + (n : Int) = (t : Int) := by omega
  have htl : t ≤ l := by omega
  have hkt : k ≤ t := by omega
  have HD : Hid (∀ (a' : Option Addr), (0 < n → a' = some ⟨b, off + k, none⟩) → Byts w a' n (c - k) ((L.drop k).take n)) := fun a' ha => h2.part (by omega) ha
  have HB : Hid (∀ (a1 : Option Addr) (l1 c1 : Nat) (w2 : World), (Byts w2 a1 l1 c1 ((L.drop k).take n) ∧ (a1 = none → c1 = 0) ∧ ∀ ad, a1 = some ad → 0 < l1 → w.heap.size ≤ ad.block ∧ IsB w2 ad.block) → Below w.heap.size w w2 →
      w2.cell? ⟨g, 0, none⟩ = some (.slice (some ⟨b, off, none⟩) l c) ∧ w2.frozen? ⟨g, 0, none⟩ = false ∧
      ∀ a', (t < c → a' = some ⟨b, off + t, none⟩) → a' ≠ none → BytT (CRdQ Q) w g L (M : Int) (.returned (.tuple #[.slice a1 l1 c1, .int .i64 0])) (w2.setCell ⟨g, 0, none⟩ (.slice a' (l - t) (c - t)))) := fun a1 l1 c1 w2 ⟨y1, y2, y3⟩ hb => by
    have z1 := (hb.block g HT.out.lt).trans h1
    refine ⟨by rw [cell_of_row w2 g 0 _ _ _ z1]; rfl, frozen_of_row w2 g 0 _ _ z1, fun a' ha hn => ?_⟩
    obtain ⟨f2, f3⟩ := crd_put h0 htl (h2.below hb) z1 hb a' ha hn (fun hp => h3.2 _ rfl hp)
    have hh : Head w2 g := ⟨_, _, z1, fun j x => by match j with | 0 => simp | j + 1 => simp⟩
    exact ⟨a1, l1, c1, _, 0, _, rfl, ⟨y1.head (grown_set w2 g 0 _) hh, y2, fun ad e h0 => by
      obtain ⟨k1, k2⟩ := y3 ad e h0
      exact ⟨k1, k2.kept ((grown_set w2 g 0 _).block ad.block k2.lt (by have := HT.out.lt; simp; omega))⟩⟩, ⟨n, k, hN, .inr ⟨by omega, rfl, rfl, rfl⟩⟩, by rw [← ht]; exact f2, f3⟩
  have hnl : n ≤ 140737488355300 := by omega
  have htk : t - k = n := by omega
  clear hN h1 h2 h3 hk0 sn hm0 hm1 hl hq
  go_wp2_with fail
  refine (c9left_any g L _ HT.out).mono ?_
  rintro e w1 ⟨rfl, rfl⟩
  clear HT
  by_cases hck : c = k
  · have hn0 : n = 0 := by omega
    have hct : t = c := by omega
    have hlc : l = c := by omega
    subst hn0
    subst hck
    subst hct
    subst hlc
    clear htl hkt ht hcp
    go_wp2_with fail
    have hD := HD.out (some ⟨b, off, none⟩) (fun h => absurd h (Nat.lt_irrefl _))
    rw [Nat.sub_self] at hD
    refine (clone9_any _ _ _ _ _ hD (by omega)).mono ?_
    rintro e w2 ⟨a1, l1, c1, rfl, hy, kb⟩
    obtain ⟨z0, zf, zR⟩ := HB.out a1 l1 c1 w2 hy kb
    have HR := (show Hid _ from zR)
    clear zR hy kb hD HD HB
    go_wp2
    go_ret2
    have hT := HR.out
    simp only [Nat.sub_self] at hT
    exact hT _ (fun h => absurd h (Nat.lt_irrefl _)) (by simp)
  · have hck' : k < c := by omega
    clear ht
    go_wp2_with fail
    have hD := HD.out (some ⟨b, off + k, none⟩) (fun _ => rfl)
    refine (clone9_any _ _ _ _ _ hD hnl).mono ?_
    rintro e w2 ⟨a1, l1, c1, rfl, hy, kb⟩
    obtain ⟨z0, zf, zR⟩ := HB.out a1 l1 c1 w2 hy kb
    have HR := (show Hid _ from zR)
    clear zR hy kb hD HD HB
    by_cases hct : c = t
    · subst hct
      obtain rfl : l = c := by omega
      clear hcp htl
      go_wp2
      go_ret2
      have hT := HR.out
      simp only [Nat.sub_self] at hT
      exact hT _ (fun h => absurd h (Nat.lt_irrefl _)) (by simp)
    · have hct' : t < c := by omega
      go_wp2
      go_ret2
      exact HR.out _ (fun _ => rfl) (by simp)

theorem rd_n9 : RdN9 CRdAt where
  lt := CRdQ.lt
  head := CRdQ.head
  below := CRdQ.below
  apart := CRdQ.apart
  new := fun a l c bs w h _ hl => c9new_any a l c bs w h hl
  left := fun g L w h => (c9left_any g L w h).mono fun e w' ⟨he, hw⟩ => ⟨he, by subst hw; exact Below.refl _ _⟩
  num := fun g L most w h _ => c9rnum_any g L most w h
end Go.Proofs.Ytnbdbahfekneoab
