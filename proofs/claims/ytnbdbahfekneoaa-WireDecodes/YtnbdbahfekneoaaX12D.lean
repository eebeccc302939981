/-
  Contracts of the program's numberCode, natCode and listCode (wire).
-/
import Derived.Test.YtnbdbahfekneoaaX9P
import Derived.Test.YtnbdbahfekneoaaCatB
import Derived.Test.YtnbdbahfekneoaaW12Enc
namespace Go.Proofs.Ytnbdbahfekneoaa
open Go.RowKit

set_option maxHeartbeats 800000 in
theorem x12num_any (n : Nat) (w : World) (hn : n < 9223372036854775808) : Calls Try.prog 25 #[.int .i64 (n : Int)] w fun e w' => CodeT n w e w' := by
  have hw : IntKind.u64.wrap (n : Int) = n := by simp [IntKind.wrap, IntKind.signed, IntKind.bits]; omega
  go_enter Try.func25, Try.ntmps25
  go_wp2_with fail
  refine (c9number_any n _ (by omega)).mono ?_
  rintro e w1 ⟨v, c, rfl, h1, h2, h3⟩
  go_wp2
  go_ret
  exact ⟨_, _, rfl, h1, h2, h3⟩
/-- The code of a natural number. -/
def CodeN (zs : List Int) (w : World) (e : Ending) (w' : World) : Prop := ∃ v c bs, e = .returned v ∧ BOwn w' w.heap.size v (c ++ bs) ∧ IsCode c bs.length ∧ ResBytes zs bs ∧ (bs.length ≤ 512 ∧ Digs 256 bs) ∧ Below w.heap.size w w'
set_option maxHeartbeats 800000 in
theorem x12nat_any (a : Option Addr) (la ca : Nat) (zs : List Int) (w : World) (h : Nums w a la ca zs) : Calls Try.prog 28 #[.slice a la ca] w fun e w' => CodeN zs w e w' := by
  go_enter Try.func28, Try.ntmps28
  go_wp2_with fail
  refine (bytes_any a la ca zs _ h).mono ?_
  rintro e w1 ⟨n, bs, rfl, h1, h2, h3, hb1⟩
  have hl := h1.hlen
  have hd := h1.digs
  have HC := (show Hid _ from c9bytes_any (some ⟨w.heap.size, 0, none⟩) n n bs w1 h1 (fun e => by cases e) (by omega))
  clear h h1
  go_wp2_with fail
  refine Calls.mono HC.out ?_
  rintro e w2 ⟨v, c, rfl, k1, k2, k3⟩
  have hB := bthen hb1 k3
  clear HC
  go_wp2
  go_ret
  exact ⟨_, _, _, rfl, k1.base hb1.size, k2, h2, ⟨by omega, hd⟩, hB⟩

set_option maxRecDepth 20000 in
set_option maxHeartbeats 3200000 in
theorem x12li_any (a : Option Addr) (l c : Nat) (ns : List Nat) (w : World) (h : Lsts w a l c (ints ns)) (hl : l ≤ 1000000) (hb : ∀ n, n ∈ ns → n ≤ 1073741824) :
    Calls Try.prog 26 #[.slice a l c, .func (.func 25) #[] #[]] w fun e w' => ∃ v ys, e = .returned v ∧ BOwn w' w.heap.size v ys ∧ IsLst ns ys ∧ Below w.heap.size w w' := by
  have hlen := h.hlen
  rw [ints_len] at hlen
  have hcap := h.hcap
  have hmax := h.hmax
  unfold maxLen at hmax
  have HL : Hid (ns.length = l ∧ ∀ n, n ∈ ns → n ≤ 1073741824) := ⟨hlen, hb⟩
  have HX : Hid (Lsts w a l c (ints ns)) := h
  have hcf := Try.call25
  clear h hlen hb
  go_enter Try.func26, Try.ntmps26
  go_wp2_with fail
  refine (x12num_any l _ (by omega)).mono ?_
  rintro e w1 ⟨v, c0, rfl, h1, h2, h3⟩
  have hc0 := code_10 h2 (by omega)
  have HC : Hid (IsCode c0 ns.length) := by show IsCode _ _; rw [HL.out.1]; exact h2
  clear h2
  go_wp2
  go_loopw [5, 13] (fun v3 v4 wr => ∃ (k : Nat) (out : List Int), v4 = .int .i64 k ∧ k ≤ l ∧ BOwn wr w.heap.size v3 (c0 ++ out) ∧ Hid (CodesOf (ns.take k) out) ∧ Below w.heap.size w wr) (fun _ v4 _ => l - (intOf v4).toNat)
  case atStart => exact ⟨0, [], rfl, Nat.zero_le _, by rw [List.append_nil]; exact h1, (rfl : CodesOf [] []), h3⟩
  case round =>
    clear h1 h3
    obtain ⟨k, out, rfl, hk, hown, HO, hbr⟩ := hrel
    by_cases hlt : k < l
    · have hlti : (k : Int) < (l : Int) := by omega
      have hk0 : (0 : Int) ≤ (k : Int) := by omega
      obtain ⟨b, off, rfl, hcl⟩ := (HX.out.below hbr).cells (by omega)
      have hx := hcl k hlt
      rw [ints_get] at hx
      obtain ⟨n, hn⟩ : ∃ n, n = ns.getD k 0 := ⟨_, rfl⟩
      rw [← hn] at hx
      have hkn : k < ns.length := by rw [HL.out.1]; exact hlt
      have hnb : n ≤ 1073741824 := by rw [hn]; exact HL.out.2 _ (by simp [List.getD, hkn])
      have hol : out.length ≤ 10 * l := by
        have := codes_len HO.out (fun m hm => by have := HL.out.2 m (List.mem_of_mem_take hm); omega)
        simp at this
        omega
      have HN : Hid (∀ c, IsCode c n → CodesOf (ns.take (k + 1)) (out ++ c)) := fun c hc => by
        rw [take_more hkn, ← hn]
        exact HO.out.snoc hc
      clear HO hcl hn hkn
      have hsz := hbr.size
      go_wp2_with fail
      refine (x12num_any n _ (by omega)).mono ?_
      rintro e w2 ⟨v2, c2, rfl, k1, k2, k3⟩
      obtain ⟨p2, l2, q2, rfl, hB2, -, nn2⟩ := k1.fresh k2.digs
      have hc2 := code_10 k2 (by omega)
      have hl2 := hB2.hlen
      have hown2 := own9 hown k3
      have hb2 := hbr.trans (k3.mono hsz)
      have HK : Hid (CodesOf (ns.take (k + 1)) (out ++ c2)) := HN.out c2 k2
      clear hown hbr k1 k2 k3 HN
      go_wp2_with (at_builtin; refine wpList_appBW _ rfl _ _ 28 rfl Try.underlying28 w.heap.size _ (c0 ++ out) rfl hown2 p2 l2 q2 c2 rfl hB2 (nil9 nn2) ?c1 w ?c2 hb2 ?_)
      case c1 => simp; omega
      case c2 => exact hb2.size
      intro v' w3 hown3 hb3 _
      clear hown2 hb2 hB2 nn2
      go_wp2
      go_roundw
      case rel => exact ⟨k + 1, out ++ c2, by go_num, by omega, hown3, HK, hb3⟩
      case measure => simp [intOf]; omega
    · obtain rfl : k = l := by omega
      have HF : Hid (IsLst ns (c0 ++ out)) := ⟨c0, out, HC.out, by have := HO.out; rw [← HL.out.1, List.take_length] at this; exact this, rfl⟩
      clear HO HX
      go_wp2
      go_ret
      exact ⟨_, _, rfl, hown, HF.out, hbr⟩

/-- What a list of natural numbers makes. -/
def NatsT (nats : List (List Int)) (w : World) (e : Ending) (w' : World) : Prop := ∃ v ys bss, e = .returned v ∧ BOwn w' w.heap.size v ys ∧ (NatsB nats bss ∧ IsBlobs bss ys) ∧ (Digs 256 ys ∧ ys.length ≤ 10 + nats.length * 530) ∧ Below w.heap.size w w'
theorem blobs_digs12 : ∀ {l : List (List Int)} {ys : List Int}, BlobsOf l ys → (∀ b, b ∈ l → Digs 256 b) → Digs 256 ys
  | [], ys, h, _ => by
    have e : ys = [] := h
    rw [e]
    intro x hx
    cases hx
  | b :: l, ys, ⟨c, r, h1, h2, e⟩, hb => by
    rw [e]
    exact h1.digs.app9 ((hb b (List.mem_cons_self ..)).app9 (blobs_digs12 h2 (fun d hd => hb d (List.mem_cons_of_mem _ hd))))
set_option maxRecDepth 20000 in
set_option maxHeartbeats 3200000 in
theorem x12ln_any (a : Option Addr) (l c : Nat) (nats : List (List Int)) (w : World) (h : NRow w a l c nats) (hl : l ≤ 1000000) :
    Calls Try.prog 27 #[.slice a l c, .func (.func 28) #[] #[]] w fun e w' => NatsT nats w e w' := by
  have hlen := h.hlen
  have hcap := h.hcap
  have hmax := h.hmax
  unfold maxLen at hmax
  have HL : Hid (nats.length = l) := hlen
  have HX : Hid (NRow w a l c nats) := h
  have hcf := Try.call28
  clear h hlen
  go_enter Try.func27, Try.ntmps27
  go_wp2_with fail
  refine (x12num_any l _ (by omega)).mono ?_
  rintro e w1 ⟨v, c0, rfl, h1, h2, h3⟩
  have hc0 := code_10 h2 (by omega)
  have HC : Hid (IsCode c0 nats.length) := by show IsCode _ _; rw [HL.out]; exact h2
  clear h2
  go_wp2
  go_loopw [5, 13] (fun v3 v4 wr => ∃ (k : Nat) (bl : List Int), v4 = .int .i64 k ∧ k ≤ l ∧ BOwn wr w.heap.size v3 (c0 ++ bl) ∧ bl.length ≤ k * 530 ∧ Hid (∃ bss, bss.length = k ∧ (∀ j, j < k → ResBytes (nats.getD j []) (bss.getD j [])) ∧ BlobsOf bss bl ∧ ∀ d, d ∈ bss → Digs 256 d) ∧ Below w.heap.size w wr) (fun _ v4 _ => l - (intOf v4).toNat)
  case atStart => exact ⟨0, [], rfl, Nat.zero_le _, by rw [List.append_nil]; exact h1, Nat.le_refl _, ⟨[], rfl, fun j hj => absurd hj (Nat.not_lt_zero _), rfl, fun d hd => absurd hd (by simp)⟩, h3⟩
  case round =>
    clear h1 h3
    obtain ⟨k, bl, rfl, hk, hown, hbl, HO, hbr⟩ := hrel
    by_cases hlt : k < l
    · have hlti : (k : Int) < (l : Int) := by omega
      have hk0 : (0 : Int) ≤ (k : Int) := by omega
      obtain ⟨b, off, rfl, hcl⟩ := (HX.out.below hbr).cells (by omega)
      obtain ⟨p, q, cq, hx, hN⟩ := hcl k hlt
      clear hcl
      have hsz := hbr.size
      have HC2 := (show Hid _ from x12nat_any p q cq _ wr hN)
      clear hN
      go_wp2_with fail
      refine Calls.mono HC2.out ?_
      rintro e w2 ⟨v2, c2, bs, rfl, k1, k2, k3, ⟨k4, k5⟩, k6⟩
      obtain ⟨p2, l2, q2, rfl, hB2, -, nn2⟩ := k1.fresh (k2.digs.app9 k5)
      have hc2 := code_10 k2 (by omega)
      have hl2 := hB2.hlen
      rw [List.length_append] at hl2
      have hown2 := own9 hown k6
      have hb2 := hbr.trans (k6.mono hsz)
      have HK : Hid (∃ bss, bss.length = k + 1 ∧ (∀ j, j < k + 1 → ResBytes (nats.getD j []) (bss.getD j [])) ∧ BlobsOf bss (bl ++ (c2 ++ bs)) ∧ ∀ d, d ∈ bss → Digs 256 d) := by
        obtain ⟨bss, f1, f2, f3, f4⟩ := HO.out
        refine ⟨bss ++ [bs], by simp [f1], fun j hj => ?_, f3.snoc k2, fun d hd => ?_⟩
        · by_cases e : j = k
          · subst e
            rw [show (bss ++ [bs]).getD j [] = bs by rw [← f1]; simp [List.getD]]
            exact k3
          · rw [show (bss ++ [bs]).getD j [] = bss.getD j [] by unfold List.getD; rw [List.getElem?_append_left (by omega)]]
            exact f2 j (by omega)
        · rcases List.mem_append.1 hd with e | e
          · exact f4 d e
          · simp at e
            rw [e]
            exact k5
      have hmul : (k + 1) * 530 = k * 530 + 530 := by omega
      have hbl9 : (bl ++ (c2 ++ bs)).length ≤ (k + 1) * 530 := by simp only [List.length_append]; omega
      have hPb : (c0 ++ bl).length ≤ 540000000 := by rw [List.length_append]; omega
      clear hown hbr k1 k2 k3 k5 k6 HO HC2
      go_wp2_with (at_builtin; refine wpList_appBW _ rfl _ _ 28 rfl Try.underlying28 w.heap.size _ _ rfl hown2 p2 l2 q2 (c2 ++ bs) rfl hB2 (nil9 nn2) ?c1 w ?c2 hb2 ?_)
      case c1 => omega
      case c2 => exact hb2.size
      intro v' w3 hown3 hb3 _
      clear hown2 hb2 hB2 nn2
      go_wp2
      go_roundw
      case rel => exact ⟨k + 1, bl ++ (c2 ++ bs), by go_num, by omega, by simpa using hown3, hbl9, HK, hb3⟩
      case measure => simp [intOf]; omega
    · obtain rfl : k = l := by omega
      have HF : Hid (∃ bss, (NatsB nats bss ∧ IsBlobs bss (c0 ++ bl)) ∧ (Digs 256 (c0 ++ bl) ∧ (c0 ++ bl).length ≤ 10 + nats.length * 530)) := by
        obtain ⟨bss, f1, f2, f3, f4⟩ := HO.out
        refine ⟨bss, ⟨⟨by rw [f1, HL.out], fun j hj => f2 j (by rw [← HL.out]; exact hj)⟩, c0, bl, by rw [f1, ← HL.out]; exact HC.out, f3, rfl⟩, HC.out.digs.app9 (blobs_digs12 f3 f4), ?_⟩
        rw [List.length_append, HL.out]
        omega
      clear HO HX
      go_wp2
      go_ret
      obtain ⟨bss, f1, f2⟩ := HF.out
      exact ⟨_, _, bss, rfl, hown, f1, f2, hbr⟩
end Go.Proofs.Ytnbdbahfekneoaa
