/-
  The document's messages: lists of whole numbers in memory; the contract of list.
-/
import Derived.Test.YtnbdbahfekneoaaW12Ans
import Derived.Test.YtnbdbahfekneoaaM11
import Derived.Test.YtnbdbahfekneoaaC9Back
namespace Go.Proofs.Ytnbdbahfekneoaa
open Go.RowKit

/-- The slice (a, len, cap) of whole numbers lies in memory. -/
structure Lsts (w : World) (a : Option Addr) (len cap : Nat) (xs : List Int) : Prop where
  hlen : xs.length = len
  hcap : len ≤ cap
  hmax : cap ≤ maxLen
  cells : 0 < len → ∃ b off, a = some ⟨b, off, none⟩ ∧ ∀ i, i < len → w.cell? ⟨b, off + i, none⟩ = some (.int .i64 (xs.getD i 0))
  word : ∀ x, x ∈ xs → -9223372036854775808 ≤ x ∧ x < 9223372036854775808
theorem Lsts.below {w w' : World} {a : Option Addr} {len cap : Nat} {xs : List Int} (h : Lsts w a len cap xs) (hb : Below w.heap.size w w') : Lsts w' a len cap xs :=
  ⟨h.hlen, h.hcap, h.hmax, fun hp => by
    obtain ⟨b, off, e, hc⟩ := h.cells hp
    exact ⟨b, off, e, fun i hi => (hb.cell (World.block_lt_of_cell? w _ (hc i hi))).trans (hc i hi)⟩, h.word⟩
theorem Lsts.nil (w : World) : Lsts w none 0 0 [] := ⟨rfl, Nat.le_refl _, Nat.zero_le _, fun h => absurd h (Nat.lt_irrefl _), fun x hx => by cases hx⟩
/-- Natural numbers as whole ones. -/
def ints (ns : List Nat) : List Int := List.map (fun (n : Nat) => (n : Int)) ns
theorem ints_len (ns : List Nat) : (ints ns).length = ns.length := by simp [ints]
theorem ints_get (ns : List Nat) (i : Nat) : (ints ns).getD i 0 = ((ns.getD i 0 : Nat) : Int) := by
  unfold ints List.getD
  rw [List.getElem?_map]
  cases ns[i]? <;> rfl
theorem codes_len : ∀ {l : List Nat} {ys : List Int}, CodesOf l ys → (∀ n, n ∈ l → n < 18446744073709551616) → ys.length ≤ 10 * l.length
  | [], ys, h, _ => by
    have e : ys = [] := h
    rw [e]
    simp
  | n :: l, ys, ⟨c, r, h1, h2, e⟩, hb => by
    have k1 := code_10 h1 (hb n (List.mem_cons_self ..))
    have k2 := codes_len h2 (fun m hm => hb m (List.mem_cons_of_mem _ hm))
    rw [e]
    simp
    omega
theorem take_more {ns : List Nat} {k : Nat} (hk : k < ns.length) : ns.take (k + 1) = ns.take k ++ [ns.getD k 0] := by
  rw [List.take_add_one]
  simp [List.getD, hk]

set_option maxRecDepth 20000 in
set_option maxHeartbeats 3200000 in
theorem r12list_any (a : Option Addr) (l c : Nat) (ns : List Nat) (w : World) (h : Lsts w a l c (ints ns)) (hl : l ≤ 1000000) (hb : ∀ n, n ∈ ns → n ≤ 1073741824) :
    Calls Try.prog 30 #[.slice a l c] w fun e w' => ∃ v ys, e = .returned v ∧ BOwn w' w.heap.size v ys ∧ IsLst ns ys ∧ Below w.heap.size w w' := by
  have hlen := h.hlen
  rw [ints_len] at hlen
  have hcap := h.hcap
  have hmax := h.hmax
  unfold maxLen at hmax
  have HL : Hid (ns.length = l ∧ ∀ n, n ∈ ns → n ≤ 1073741824) := ⟨hlen, hb⟩
  have HX : Hid (Lsts w a l c (ints ns)) := h
  clear h hlen hb
  go_enter Try.func30, Try.ntmps30
  go_wp2_with fail
  refine (r9number_any l _ (by omega)).mono ?_
  rintro e w1 ⟨v, c0, rfl, h1, h2, h3⟩
  have hc0 := code_10 h2 (by omega)
  have HC : Hid (IsCode c0 ns.length) := by show IsCode _ _; rw [HL.out.1]; exact h2
  obtain ⟨v0, hv0⟩ : ∃ v0, v0 = v := ⟨_, rfl⟩
  clear h2 hv0 v0
  go_wp2
  go_loopw [3, 4] (fun v3 v4 wr => ∃ (k : Nat) (out : List Int), v4 = .int .i64 k ∧ k ≤ l ∧ BOwn wr w.heap.size v3 (c0 ++ out) ∧ Hid (CodesOf (ns.take k) out) ∧ Below w.heap.size w wr) (fun _ v4 _ => l - (intOf v4).toNat)
  case atStart => exact ⟨0, [], rfl, Nat.zero_le _, by rw [List.append_nil]; exact h1, (rfl : CodesOf [] []), h3⟩
  case round =>
    clear h1 h3
    obtain ⟨k, out, rfl, hk, hown, HO, hbr⟩ := hrel
    by_cases hlt : k < l
    · have hlti : (k : Int) < (l : Int) := by omega
      have hk0 : (0 : Int) ≤ (k : Int) := by omega
      obtain ⟨b, off, rfl, hcl⟩ := (HX.out.below hbr).cells (by omega)
      have hx := hcl k hlt
      rw [ints_get] at hx
      obtain ⟨n, hn⟩ : ∃ n, n = ns.getD k 0 := ⟨_, rfl⟩
      rw [← hn] at hx
      have hkn : k < ns.length := by rw [HL.out.1]; exact hlt
      have hnb : n ≤ 1073741824 := by rw [hn]; exact HL.out.2 _ (by simp [List.getD, hkn])
      have hol : out.length ≤ 10 * l := by
        have := codes_len HO.out (fun m hm => by have := HL.out.2 m (List.mem_of_mem_take hm); omega)
        simp at this
        omega
      have HN : Hid (∀ c, IsCode c n → CodesOf (ns.take (k + 1)) (out ++ c)) := fun c hc => by
        rw [take_more hkn, ← hn]
        exact HO.out.snoc hc
      clear HO hcl hn hkn
      have hsz := hbr.size
      go_wp2_with fail
      refine (r9number_any n _ (by omega)).mono ?_
      rintro e w2 ⟨v2, c2, rfl, k1, k2, k3⟩
      obtain ⟨p2, l2, q2, rfl, hB2, -, nn2⟩ := k1.fresh k2.digs
      have hc2 := code_10 k2 (by omega)
      have hl2 := hB2.hlen
      have hown2 := own9 hown k3
      have hb2 := hbr.trans (k3.mono hsz)
      have HK : Hid (CodesOf (ns.take (k + 1)) (out ++ c2)) := HN.out c2 k2
      clear hown hbr k1 k2 k3 HN
      go_wp2_with (at_builtin; refine wpList_appBW _ rfl _ _ 28 rfl Try.underlying28 w.heap.size _ (c0 ++ out) rfl hown2 p2 l2 q2 c2 rfl hB2 (nil9 nn2) ?c1 w ?c2 hb2 ?_)
      case c1 => simp; omega
      case c2 => exact hb2.size
      intro v' w3 hown3 hb3 _
      clear hown2 hb2 hB2 nn2
      go_wp2
      go_roundw
      case rel => exact ⟨k + 1, out ++ c2, by go_num, by omega, hown3, HK, hb3⟩
      case measure => simp [intOf]; omega
    · obtain rfl : k = l := by omega
      have HF : Hid (IsLst ns (c0 ++ out)) := ⟨c0, out, HC.out, by have := HO.out; rw [← HL.out.1, List.take_length] at this; exact this, rfl⟩
      clear HO HX
      go_wp2
      go_ret
      exact ⟨_, _, rfl, hown, HF.out, hbr⟩
end Go.Proofs.Ytnbdbahfekneoaa
