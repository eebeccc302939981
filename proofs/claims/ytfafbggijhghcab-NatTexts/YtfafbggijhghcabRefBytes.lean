/-
  The contract of the document's Bytes.
-/
import Derived.Test.YtfafbggijhghcabRefRead
import Derived.Test.YtfafbggijhghcabNatA
namespace Go.Proofs.Ytfafbggijhghcab
open Go.RowKit

/-- The slice value v, in a row of the call's own from block 'base' on, holds the bytes zs. -/
def BOwn (w : World) (base : Nat) (v : Value) (zs : List Int) : Prop := w.ownsRow base 5 1 v zs.length (zs.map (Value.int .u8))

theorem BOwn.nil (w : World) (base : Nat) : BOwn w base (.slice none 0 0) [] := World.ownsRow_nil _ _ _ _
theorem BOwn.alloc {w : World} {base : Nat} {v : Value} {zs : List Int} (h : BOwn w base v zs) (o : Obj) : BOwn (w.alloc o) base v zs := World.ownsRow.alloc h o

theorem BOwn.byts {w : World} {base : Nat} {v : Value} {zs : List Int} (h : BOwn w base v zs) (hd : Digs 256 zs) : ∃ a cap, v = .slice a zs.length cap ∧ Byts w a zs.length cap zs := by
  obtain ⟨h1, h2⟩ := h
  rcases h2 with ⟨rfl, hn⟩ | ⟨g, cap, cur, rfl, hb, hg, hnc, hcm, hcs, htk⟩
  · have e : zs = [] := List.eq_nil_of_length_eq_zero hn
    subst e
    exact ⟨none, 0, rfl, Byts.nil _⟩
  · refine ⟨some ⟨g, 0, none⟩, cap, rfl, rfl, hnc, hcm, fun _ => ⟨g, 0, rfl, fun i hi => ?_⟩, hd⟩
    have hown : w.ownsRow base 5 1 (.slice (some ⟨g, 0, none⟩) zs.length cap) zs.length (zs.map (Value.int .u8)) := ⟨h1, .inr ⟨g, cap, cur, rfl, hb, hg, hnc, hcm, hcs, htk⟩⟩
    rw [Nat.zero_add, hown.cellAt i (by omega)]
    simp [List.getD, hi]

theorem wpList_appB1 (w : World) {ops : Array Oper} {rest : List Oper} {o : Oper} {a : Act} {Q : Exit → Act → World → Prop} (hgd : o.guard = none) (s x : Operand) (t : TypeId)
    (ho : o.op = .call { callee := .builtin .append, args := #[s, x], argTypes := #[t, t] }) (ht : Try.prog.underlying t = some (.slice 5))
    (base : Nat) (v : Value) (zs : List Int) (hs : a.eval s = v) (hown : BOwn w base v zs) (ad : Addr) (y : Int) (hx : a.eval x = .slice (some ad) 1 1) (hc : w.cell? ad = some (.int .u8 y))
    (hlen : zs.length < 1000000) (w0 : World) (hbase : base ≤ w.heap.size) (hb : Below base w0 w)
    (h : ∀ v' w', BOwn w' base v' (zs ++ [y]) → Below base w0 w' → wpList Try.prog ops Q rest (a.put o.dst v') w') : wpList Try.prog ops Q (o :: rest) a w := by
  obtain ⟨i0, hi, hz0, hz1, hz2⟩ := info_parts Try.infoB
  refine wpList_append_own w hgd s x t ho base 5 i0 (.int .u8 0) 1 1 ht hi hz0 hz1 hz2 rfl (by decide) v zs.length (zs.map (Value.int .u8)) hs hown ad 1 1 [.int .u8 y] hx rfl ?_ ?_ ?_ ?_ hbase ?_
  · intro j u hj
    match j, hj with
    | 0, hj =>
      simp at hj; subst hj
      obtain ⟨b, off, spot⟩ := ad
      have hspot : spot = none := World.cell?_spot hc
      subst hspot
      rw [Addr.add_lit]; exact hc
  · intro u hu; simp at hu; subst hu; rfl
  · unfold maxLen; omega
  · omega
  · intro v' w' h2 h3 _
    refine h v' w' ?_ (hb.grown h3 hbase (fun k hk => (World.ownsRow.lt hown k hk).1))
    have e : (zs ++ [y]).length = zs.length + 1 := by simp
    unfold BOwn
    rw [e, List.map_append]
    exact h2


theorem rb_two {bs : List Int} {x : Int} (hd : Digs 256 bs) (ht : Top bs.reverse) (hx : 0 ≤ x ∧ x < 65536) (h : bs ≠ [] ∨ 255 < x) :
    Digs 256 ((bs ++ [x / 256]) ++ [x % 256]) ∧ Top ((bs ++ [x / 256]) ++ [x % 256]).reverse ∧ val 256 ((bs ++ [x / 256]) ++ [x % 256]).reverse = x + 65536 * val 256 bs.reverse ∧ (bs ++ [x / 256]) ++ [x % 256] ≠ [] := by
  have e : ((bs ++ [x / 256]) ++ [x % 256]).reverse = x % 256 :: x / 256 :: bs.reverse := by simp
  refine ⟨(hd.snoc ⟨by omega, by omega⟩).snoc ⟨by omega, by omega⟩, ?_, ?_, by simp⟩
  · rw [e]
    right
    rcases ht with h0 | h0
    · have hb : bs = [] := by simpa using h0
      subst hb
      rcases h with h | h
      · exact absurd rfl h
      · simp; omega
    · have hl : 0 < bs.reverse.length := by
        cases hr : bs.reverse with
        | nil => rw [hr] at h0; simp at h0
        | cons a b => simp
      have hl2 : (x % 256 :: x / 256 :: bs.reverse).length - 1 = (bs.reverse.length - 1) + 2 := by simp at hl ⊢; omega
      rw [hl2]
      simpa using h0
  · rw [e]
    simp only [val]
    omega

theorem rb_one {x : Int} (hx : 0 < x ∧ x ≤ 255) : Digs 256 ([] ++ [x % 256]) ∧ Top ([] ++ [x % 256] : List Int).reverse ∧ val 256 ([] ++ [x % 256] : List Int).reverse = x + 65536 * val 256 ([] : List Int).reverse ∧ ([] ++ [x % 256] : List Int) ≠ [] := by
  refine ⟨(Digs.nil _).snoc ⟨by omega, by omega⟩, ?_, ?_, by simp⟩
  · right; simp; omega
  · simp [val]; omega

theorem drop_val {B : Int} {ds : List Int} {i : Nat} (h : i < ds.length) : val B (ds.drop i) = ds.getD i 0 + B * val B (ds.drop (i + 1)) := by
  rw [List.drop_eq_getElem_cons h, val]
  simp [List.getD, h]

set_option maxHeartbeats 3200000 in
theorem refBytes_any (a : Option Addr) (la ca : Nat) (zs : List Int) (w : World) (h : Nums w a la ca zs) :
    Calls Try.prog 22 #[.slice a la ca] w fun e w' => ∃ a' n c' bs, e = .returned (.slice a' n c') ∧ Byts w' a' n c' bs ∧ ResBytes zs bs ∧ n ≤ 2000 ∧ Below w.heap.size w w' := by
  cases hr : rightB zs with
  | false =>
    go_enter Try.func22, Try.ntmps22
    go_wp2_with fail
    refine (refRight_any _ _ _ _ _ h).mono ?_
    rintro e w1 ⟨rfl, rfl⟩
    rw [hr]
    go_wp2_with fail
    go_ret
    exact ⟨none, 0, 0, [], rfl, Byts.nil _, by simp [ResBytes, hr], by omega, Below.refl _ _⟩
  | true =>
    have hla : la ≤ 64 := by have := right_len hr; have := h.hlen; omega
    go_enter Try.func22, Try.ntmps22
    go_wp2_with fail
    refine (refRight_any _ _ _ _ _ h).mono ?_
    rintro e w0 ⟨rfl, rfl⟩
    rw [hr]
    go_wp2_with fail
    refine (in_any _ _ _ _ _ h (by omega)).mono ?_
    rintro e w1 ⟨da, n, dc, ds, rfl, hds, hdd, hdt, hdv, hb1⟩
    have hdl := hds.hlen
    have hn : n ≤ 256 := by
      have e1 : val 65536 ds < 65536 ^ 256 := by
        rw [hdv]
        have := val_lt_pow (B := 18446744073709551616) (by decide) h.digs (right_len hr)
        have e2 : (18446744073709551616 : Int) ^ 64 = 65536 ^ 256 := by rw [show (18446744073709551616 : Int) = 65536 ^ 4 by decide, ← Int.pow_mul]
        omega
      have := len_le (B := 65536) (by decide) hdd hdt e1
      omega
    have HL : Hid (ds.length = n) := hdl
    have HV : Hid (val 65536 ds = val 18446744073709551616 zs ∧ Top ds) := ⟨hdv, hdt⟩
    clear hdl hdv hdt
    go_wp2
    go_loopw [5, 6] (fun ov iv wr => ∃ (j : Nat) (bs : List Int), j ≤ n ∧ iv = .int .i64 ((j : Int) - 1) ∧ BOwn wr w1.heap.size ov bs ∧ Digs 256 bs ∧ Hid (Top bs.reverse ∧ val 256 bs.reverse = val 65536 (ds.drop j) ∧ (bs = [] → j = n)) ∧ Hid (bs.length ≤ 2 * (n - j)) ∧ Below w1.heap.size w1 wr) (fun _ iv _ => (intOf iv + 1).toNat)
    case atStart => exact ⟨n, [], Nat.le_refl _, rfl, BOwn.nil _ _, Digs.nil _, ⟨.inl rfl, by rw [List.drop_eq_nil_of_le (by have := HL.out; omega)]; rfl, fun _ => rfl⟩, by show _ ≤ _; simp, Below.refl _ _⟩
    case round =>
      obtain ⟨j, bs, hj, rfl, hown, hbd, HT, HN, hbr⟩ := hrel
      obtain ⟨oa, oc, rfl, hby⟩ := hown.byts hbd
      have hbl : bs.length < 1000000 := by have := HN.out; omega
      by_cases h0 : j = 0
      · subst h0
        have HR : Hid (ResBytes zs bs) := by
          unfold ResBytes
          rw [hr, if_pos rfl]
          exact ⟨hbd, HT.out.1, by rw [HT.out.2.1]; exact HV.out.1⟩
        have hB := hb1.trans (hbr.mono hb1.size)
        have hb2 : bs.length ≤ 2000 := by have := HN.out; omega
        clear HT HN
        go_wp2
        go_ret
        exact ⟨_, _, _, _, rfl, hby, HR.out, hb2, hB⟩
      · obtain ⟨i, rfl⟩ : ∃ i, j = i + 1 := ⟨j - 1, by omega⟩
        have ei : ((i + 1 : Nat) : Int) - 1 = (i : Int) := by omega
        rw [ei]
        clear ei
        have hi0 : (0 : Int) ≤ (i : Int) := by omega
        have hin : (i : Int) < (n : Int) := by omega
        obtain ⟨db, dof, rfl, hcw⟩ := hds.cells (by omega)
        have hdb : db < w1.heap.size := World.block_lt_of_cell? w1 _ (hcw i (by omega))
        have hcd : ∀ q, q < n → wr.cell? ⟨db, dof + q, none⟩ = some (.int .u64 (ds.getD q 0)) := fun q hq => (hbr.cell (p := ⟨db, dof + q, none⟩) (World.block_lt_of_cell? w1 _ (hcw q hq))).trans (hcw q hq)
        obtain ⟨x, hx⟩ : ∃ x, x = ds.getD i 0 := ⟨_, rfl⟩
        have hc1 : wr.cell? ⟨db, dof + i, none⟩ = some (.int .u64 x) := by rw [hx]; exact hcd i (by omega)
        have hw1c : w1.cell? ⟨db, dof + i, none⟩ = some (.int .u64 x) := by rw [hx]; exact hcw i (by omega)
        have bx : 0 ≤ x ∧ x < 65536 := by rw [hx]; exact hdd.getD (by decide) _
        have hdr := drop_val (B := 65536) (ds := ds) (i := i) (by have := HL.out; omega)
        rw [← hx] at hdr
        have HX : Hid (x = ds.getD i 0) := hx
        have HDr : Hid (val 65536 (ds.drop i) = x + 65536 * val 65536 (ds.drop (i + 1))) := hdr
        clear hx hdr hcd hcw
        have two : bs ≠ [] ∨ 255 < x → Hid (Digs 256 ((bs ++ [x / 256]) ++ [x % 256]) ∧ (Top ((bs ++ [x / 256]) ++ [x % 256]).reverse ∧ val 256 ((bs ++ [x / 256]) ++ [x % 256]).reverse = val 65536 (ds.drop i) ∧ ((bs ++ [x / 256]) ++ [x % 256] = [] → i = n)) ∧ ((bs ++ [x / 256]) ++ [x % 256]).length ≤ 2 * (n - i)) := fun hor => by
          obtain ⟨q1, q2, q3, q4⟩ := rb_two hbd HT.out.1 bx hor
          refine ⟨q1, ⟨q2, by rw [q3, HDr.out, HT.out.2.1], fun e => absurd e q4⟩, ?_⟩
          have := HN.out
          simp; omega
        have HTwo : Hid (bs ≠ [] ∨ 255 < x → Hid (Digs 256 ((bs ++ [x / 256]) ++ [x % 256]) ∧ (Top ((bs ++ [x / 256]) ++ [x % 256]).reverse ∧ val 256 ((bs ++ [x / 256]) ++ [x % 256]).reverse = val 65536 (ds.drop i) ∧ ((bs ++ [x / 256]) ++ [x % 256] = [] → i = n)) ∧ ((bs ++ [x / 256]) ++ [x % 256]).length ≤ 2 * (n - i))) := two
        clear two
        have bq : 0 ≤ x / 256 ∧ x / 256 < 256 := by omega
        have br : 0 ≤ x % 256 ∧ x % 256 < 256 := by omega
        have hl2 : (bs ++ [x / 256]).length < 1000000 := by have := HN.out; simp; omega
        by_cases hlen : 0 < bs.length
        · have HP := HTwo.out (.inl (by intro e; subst e; simp at hlen))
          have hlen' : (0 : Int) < (bs.length : Int) := by omega
          clear HTwo HT HN HX HDr hby
          go_wp2_with (at_builtin; refine wpList_appB1 _ rfl _ _ 41 rfl Try.underlying41 w1.heap.size _ _ rfl (hown.alloc _) ⟨wr.heap.size, 0, none⟩ (x / 256) rfl ?c1 hbl w1 ?c2 ?c3 ?_)
          case c1 => simp
          case c2 => have := hbr.size; simp; omega
          case c3 => exact hbr.alloc hbr.size _
          intro v' w2 hown2 hb2
          have hc2 : w2.cell? ⟨db, dof + i, none⟩ = some (.int .u64 x) := (hb2.cell (p := ⟨db, dof + i, none⟩) hdb).trans (hw1c)
          clear hown hbr hc1
          go_wp2_with (at_builtin; refine wpList_appB1 _ rfl _ _ 41 rfl Try.underlying41 w1.heap.size _ _ rfl (hown2.alloc _) ⟨w2.heap.size, 0, none⟩ (x % 256) rfl ?d1 hl2 w1 ?d2 ?d3 ?_)
          case d1 => simp
          case d2 => have := hb2.size; simp; omega
          case d3 => exact hb2.alloc hb2.size _
          intro v2 w3 hown3 hb3
          clear hown2 hb2 hc2
          go_wp2
          go_roundw
          case rel => exact ⟨i, (bs ++ [x / 256]) ++ [x % 256], by omega, rfl, by simpa using hown3, HP.out.1, HP.out.2.1, HP.out.2.2, hb3⟩
          case measure => simp [intOf]
        · have hb0 : bs = [] := List.eq_nil_of_length_eq_zero (by omega)
          subst hb0
          by_cases hx255 : 255 < x
          · have HP := HTwo.out (.inr hx255)
            clear HTwo HT HN HX HDr hby hlen
            go_wp2_with (at_builtin; refine wpList_appB1 _ rfl _ _ 41 rfl Try.underlying41 w1.heap.size _ _ rfl (hown.alloc _) ⟨wr.heap.size, 0, none⟩ (x / 256) rfl ?c1 hbl w1 ?c2 ?c3 ?_)
            case c1 => simp
            case c2 => have := hbr.size; simp; omega
            case c3 => exact hbr.alloc hbr.size _
            intro v' w2 hown2 hb2
            have hc2 : w2.cell? ⟨db, dof + i, none⟩ = some (.int .u64 x) := (hb2.cell (p := ⟨db, dof + i, none⟩) hdb).trans (hw1c)
            clear hown hbr hc1
            go_wp2_with (at_builtin; refine wpList_appB1 _ rfl _ _ 41 rfl Try.underlying41 w1.heap.size _ _ rfl (hown2.alloc _) ⟨w2.heap.size, 0, none⟩ (x % 256) rfl ?d1 hl2 w1 ?d2 ?d3 ?_)
            case d1 => simp
            case d2 => have := hb2.size; simp; omega
            case d3 => exact hb2.alloc hb2.size _
            intro v2 w3 hown3 hb3
            clear hown2 hb2 hc2
            go_wp2
            go_roundw
            case rel => exact ⟨i, ([] ++ [x / 256]) ++ [x % 256], by omega, rfl, by simpa using hown3, HP.out.1, HP.out.2.1, HP.out.2.2, hb3⟩
            case measure => simp [intOf]
          · have hxp : x ≠ 0 := by
              have e1 := HT.out.2.2 rfl
              have e2 := HV.out.2
              rw [HX.out]
              rcases e2 with e | e
              · have := HL.out; rw [e] at this; simp at this; omega
              · rw [HL.out, show n - 1 = i by omega] at e; exact e
            have hd255 : decide (255 < x) = false := by simp; omega
            have HP : Hid (Digs 256 ([] ++ [x % 256]) ∧ (Top ([] ++ [x % 256] : List Int).reverse ∧ val 256 ([] ++ [x % 256] : List Int).reverse = val 65536 (ds.drop i) ∧ (([] ++ [x % 256] : List Int) = [] → i = n)) ∧ ([] ++ [x % 256] : List Int).length ≤ 2 * (n - i)) := by
              obtain ⟨q1, q2, q3, q4⟩ := rb_one (x := x) (by omega)
              refine ⟨q1, ⟨q2, by rw [q3, HDr.out, HT.out.2.1], fun e => absurd e q4⟩, ?_⟩
              simp; omega
            clear HTwo HT HN HX HDr hby hlen
            go_wp2_with (at_builtin; refine wpList_appB1 _ rfl _ _ 41 rfl Try.underlying41 w1.heap.size _ [] rfl (hown.alloc _) ⟨wr.heap.size, 0, none⟩ (x % 256) rfl ?c1 hbl w1 ?c2 ?c3 ?_)
            case c2 => have := hbr.size; simp; omega
            case c3 => exact hbr.alloc hbr.size _
            intro v' w2 hown2 hb2
            clear hown hbr
            go_wp2
            go_roundw
            case rel => exact ⟨i, [] ++ [x % 256], by omega, rfl, by simpa using hown2, HP.out.1, HP.out.2.1, HP.out.2.2, hb2⟩
            case measure => simp [intOf]
end Go.Proofs.Ytfafbggijhghcab
