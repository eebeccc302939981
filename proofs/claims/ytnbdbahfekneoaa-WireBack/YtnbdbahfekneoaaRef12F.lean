/-
  The contract of the document's readList (wire).
-/
import Derived.Test.YtnbdbahfekneoaaRef12E
namespace Go.Proofs.Ytnbdbahfekneoaa
open Go.RowKit

theorem RRdQ.both {Q : Nat → Prop} {w : World} {g : Nat} {L : List Int} (h : RRdQ Q w g L) : RRdQ (fun b => Q b ∧ b < w.heap.size) w g L := by
  obtain ⟨a, l, c, u, F, h0, hu, hL, h1, h2, h3, h4⟩ := h
  refine ⟨a, l, c, u, F, h0, hu, hL, h1, h2, h3, fun ad e hl => ⟨h4 ad e hl, ?_⟩⟩
  obtain ⟨b, off, rfl, hc⟩ := h2.cells hl
  cases e
  exact World.block_lt_of_cell? _ _ (hc 0 hl)
theorem RRdQ.otherQ {Q : Nat → Prop} {B : Nat} (hQ : ∀ b, Q b → b < B) {w w' : World} {g : Nat} {L : List Int} (h : RRdQ Q w g L) (hg : g < B) (hb : Below B w w') : RRdQ Q w' g L := by
  obtain ⟨a, l, c, u, F, h0, hu, hL, h1, h2, h3, h4⟩ := h
  refine ⟨a, l, c, u, F, h0, hu, hL, (hb.block g hg).trans h1, ⟨h2.hlen, h2.hcap, h2.hmax, fun hl => ?_, h2.word⟩, h3, h4⟩
  obtain ⟨b, off, rfl, hc⟩ := h2.cells hl
  refine ⟨b, off, rfl, fun i hi => ?_⟩
  rw [World.cell?_of_block (hb.block b (hQ _ (h4 _ rfl hl)))]
  exact hc i hi
/-- What readList makes. -/
def RlT (Q : Nat → Prop) (L : List Int) (w : World) (g : Nat) (e : Ending) (w' : World) : Prop :=
  ∃ a l c ns ok R, e = .returned (.tuple #[.slice a l c, .bool ok]) ∧ Lsts w' a l c (ints ns) ∧ ((∀ n, n ∈ ns → n ≤ 1073741824) ∧ ns.length ≤ 16384) ∧ ((a = none → c = 0) ∧ ∀ ad, a = some ad → 0 < l → w.heap.size ≤ ad.block ∧ ∃ cur, w'.heap[ad.block]? = some (.cells cur 3 (0, 0))) ∧ RRdQ Q w' g R ∧ w.grownBy w' (some g) ∧
    ∀ ms T y, IsLst ms y → L = y ++ T → ms.length ≤ 16384 → (∀ m, m ∈ ms → m ≤ 1073741824) → ok = true ∧ ns = ms ∧ R = T
theorem IOwn.fresh {w : World} {base : Nat} {v : Value} {xs : List Int} (h : IOwn w base v xs) (hd : ∀ x, x ∈ xs → -9223372036854775808 ≤ x ∧ x < 9223372036854775808) : ∃ a cap, v = .slice a xs.length cap ∧ Lsts w a xs.length cap xs ∧ (a = none → cap = 0) ∧ ∀ ad, a = some ad → base ≤ ad.block ∧ ∃ cur, w.heap[ad.block]? = some (.cells cur 3 (0, 0)) := by
  obtain ⟨a, cap, e, h1, h2⟩ := h.lsts hd
  refine ⟨a, cap, e, h1, h2, fun ad ea => ?_⟩
  refine ⟨(World.ownsRow.lt h ad.block (by rw [e, ea]; rfl)).1, ?_⟩
  obtain ⟨_, ⟨e2, _⟩ | ⟨g, c, cur, e2, _, e3, _⟩⟩ := h
  · rw [e, ea] at e2
    simp at e2
  · rw [e, ea] at e2
    simp at e2
    rw [e2.1]
    exact ⟨cur, e3⟩
theorem below_of_own {w w' : World} {base : Nat} {v : Value} {xs : List Int} (h : IOwn w base v xs) (hg : w.grownBy w' v.ownBlock) (hb : base ≤ w.heap.size) : Below base w w' :=
  ⟨hg.os, hg.tape, hg.output, hg.size, fun k hk => hg.block k (Nat.lt_of_lt_of_le hk hb) (fun e => by have := (World.ownsRow.lt h k e.symm).1; omega)⟩
theorem grown_low {w w1 w2 : World} {g : Nat} (h : w.grownBy w1 (some g)) (h2 : Below w.heap.size w1 w2) : w.grownBy w2 (some g) := ⟨h2.os.trans h.os, h2.tape.trans h.tape, h2.output.trans h.output, Nat.le_trans h.size h2.size, fun k hk hne => (h2.block k hk).trans (h.block k hk hne)⟩
theorem grown_then {w w1 w2 : World} {g : Nat} (h : w.grownBy w1 (some g)) (h2 : w1.grownBy w2 (some g)) : w.grownBy w2 (some g) := ⟨h2.os.trans h.os, h2.tape.trans h.tape, h2.output.trans h.output, Nat.le_trans h.size h2.size, fun k hk hne => (h2.block k (Nat.lt_of_lt_of_le hk h.size) hne).trans (h.block k hk hne)⟩
theorem ResNum.at {c R L : List Int} {n m most : Nat} {err : Int} {R' : List Int} (h : ResNum L most m err R') (hc : IsCode c n) (hn : n ≤ most) (hb : n < 18446744073709551616) (hL : L = c ++ R) : m = n ∧ err = 0 ∧ R' = R := by
  subst hL
  exact h.unique (read_codes hc hb hn)
theorem ints_snoc (ns : List Nat) (n : Nat) : ints (ns ++ [n]) = ints ns ++ [(n : Int)] := by simp [ints]
theorem ResNum.most {L : List Int} {most n : Nat} {err : Int} {R : List Int} (h : ResNum L most n err R) : n ≤ most := by
  obtain ⟨m, k, h1, h2⟩ := h
  rcases h2 with ⟨c, rfl, rfl, rfl⟩ | ⟨c, rfl, rfl, rfl⟩ <;> omega

set_option maxRecDepth 20000 in
set_option maxHeartbeats 6400000 in
theorem r12rl_any {Q : Nat → Prop} (g : Nat) (L : List Int) (w : World) (h : RRdQ Q w g L) :
    Calls Try.prog 36 #[.pointer (some ⟨g, 0, none⟩)] w fun e w' => RlT Q L w g e w' := by
  have hgl := h.lt
  replace h := h.both
  have BAD : ∀ (wx : World) (R : List Int), RRdQ (fun b => Q b ∧ b < w.heap.size) wx g R → w.grownBy wx (some g) → (∀ ms T y, IsLst ms y → L = y ++ T → ms.length ≤ 16384 → (∀ m, m ∈ ms → m ≤ 1073741824) → False) → Hid (RlT Q L w g (.returned (.tuple #[.slice none 0 0, .bool false])) wx) := fun wx R hA hg hn => ⟨none, 0, 0, [], false, R, rfl, Lsts.nil _, ⟨fun n hn => absurd hn (by simp), by simp⟩, ⟨fun _ => rfl, fun _ e => (by cases e)⟩, hA.mono (fun _ q => q.1), hg, fun ms T y h1 h2 h3 h4 => absurd (hn ms T y h1 h2 h3 h4) id⟩
  go_enter Try.func36, Try.ntmps36
  go_wp2_with fail
  refine (r9rnum_any g L 16384 _ h).mono ?_
  rintro e w1 ⟨n, e1, L1, rfl, hr1, hA1, hg1⟩
  have hn := hr1.most
  have HR1 : Hid (ResNum L 16384 n e1 L1) := hr1
  clear h hr1
  by_cases z1 : e1 = 0
  case neg =>
    have HB := BAD w1 L1 hA1 hg1 (fun ms T y h1 h2 h3 h4 => by
      obtain ⟨c, r, k1, k2, rfl⟩ := h1
      rw [List.append_assoc] at h2
      exact z1 (HR1.out.at k1 h3 (by omega) h2).2.1)
    have z1d : (e1 != 0) = true := by simp [z1]
    have z1e : (e1 == 0) = false := by simp [z1]
    clear BAD hA1 hg1 HR1 z1
    go_wp2_with fail
    first | exact HB.out | (go_ret2; exact HB.out)
  subst z1
  have HF0 : Hid (∀ ms T y, IsLst ms y → L = y ++ T → ms.length ≤ 16384 → (∀ m, m ∈ ms → m ≤ 1073741824) → ms.length = n ∧ ∃ y', CodesOf ms y' ∧ L1 = y' ++ T) := fun ms T y h1 h2 h3 h4 => by
    obtain ⟨c, r, k1, k2, rfl⟩ := h1
    rw [List.append_assoc] at h2
    obtain ⟨q1, -, q3⟩ := HR1.out.at k1 h3 (by omega) h2
    exact ⟨q1.symm, r, k2, q3⟩
  clear HR1
  have HBAD : Hid (∀ (wx : World) (R : List Int), RRdQ (fun b => Q b ∧ b < w.heap.size) wx g R → w.grownBy wx (some g) → (∀ ms T y, IsLst ms y → L = y ++ T → ms.length ≤ 16384 → (∀ m, m ∈ ms → m ≤ 1073741824) → False) → Hid (RlT Q L w g (.returned (.tuple #[.slice none 0 0, .bool false])) wx)) := BAD
  clear BAD
  go_wp2_with fail
  go_loopw [6, 7] (fun v6 v7 wr => ∃ (i : Nat) (ns : List Nat) (R : List Int), v7 = .int .u64 i ∧ i ≤ n ∧ IOwn wr w.heap.size v6 (ints ns) ∧ ns.length = i ∧ Hid (∀ m, m ∈ ns → m ≤ 1073741824) ∧ RRdQ (fun b => Q b ∧ b < w.heap.size) wr g R ∧ w.grownBy wr (some g) ∧ Hid (∀ ms T y, IsLst ms y → L = y ++ T → ms.length ≤ 16384 → (∀ m, m ∈ ms → m ≤ 1073741824) → ms.length = n ∧ ns = ms.take i ∧ ∃ y', CodesOf (ms.drop i) y' ∧ R = y' ++ T)) (fun _ v7 _ => n - (intOf v7).toNat)
  case atStart => exact ⟨0, [], L1, rfl, Nat.zero_le _, IOwn.nil _ _, rfl, fun m hm => absurd hm (by simp), hA1, hg1, fun ms T y h1 h2 h3 h4 => ⟨(HF0.out ms T y h1 h2 h3 h4).1, by simp, (HF0.out ms T y h1 h2 h3 h4).2⟩⟩
  case round =>
    clear hA1 hg1 HF0
    obtain ⟨i, ns, R, rfl, hi, hown, hnl, HB, hA, hg, HF⟩ := hrel
    by_cases hlt : i < n
    · have hlti : (i : Int) < (n : Int) := by omega
      have hsz := hg.size
      go_wp2_with fail
      refine (r9rnum_any g R 1073741824 _ hA).mono ?_
      rintro e w2 ⟨x, e2, R2, rfl, hr2, hA2, hg2⟩
      have hxb := hr2.most
      have HR2 : Hid (ResNum R 1073741824 x e2 R2) := hr2
      have hgg := grown_then hg hg2
      have hown2 := hown.grown hg2 hgl
      have hsz2 := hgg.size
      clear hr2 hA hg hg2 hown
      have STEP : ∀ ms T y, IsLst ms y → L = y ++ T → ms.length ≤ 16384 → (∀ m, m ∈ ms → m ≤ 1073741824) → e2 = 0 ∧ ms.length = n ∧ ns ++ [x] = ms.take (i + 1) ∧ ∃ y', CodesOf (ms.drop (i + 1)) y' ∧ R2 = y' ++ T := fun ms T y h1 h2 h3 h4 => by
        obtain ⟨f1, f2, y', f3, f4⟩ := HF.out ms T y h1 h2 h3 h4
        have hil : i < ms.length := by omega
        rw [List.drop_eq_getElem_cons hil] at f3
        obtain ⟨c, r, k1, k2, rfl⟩ := f3
        rw [List.append_assoc] at f4
        have hm := h4 _ (List.getElem_mem hil)
        obtain ⟨q1, q2, q3⟩ := HR2.out.at k1 hm (by omega) f4
        refine ⟨q2, f1, ?_, r, k2, q3⟩
        rw [q1, f2, List.take_add_one]
        simp [hil]
      have HSTEP : Hid (∀ ms T y, IsLst ms y → L = y ++ T → ms.length ≤ 16384 → (∀ m, m ∈ ms → m ≤ 1073741824) → e2 = 0 ∧ ms.length = n ∧ ns ++ [x] = ms.take (i + 1) ∧ ∃ y', CodesOf (ms.drop (i + 1)) y' ∧ R2 = y' ++ T) := STEP
      clear STEP HF HR2
      by_cases z2 : e2 = 0
      case neg =>
        have HE := HBAD.out w2 R2 hA2 hgg (fun ms T y h1 h2 h3 h4 => z2 (HSTEP.out ms T y h1 h2 h3 h4).1)
        have z2d : (e2 != 0) = true := by simp [z2]
        have z2e : (e2 == 0) = false := by simp [z2]
        clear HBAD hA2 hgg hown2 HSTEP HB z2
        go_wp2_with fail
        first | exact HE.out | (go_ret2; exact HE.out)
      subst z2
      have hwx : IntKind.i64.wrap (x : Int) = x := by simp [IntKind.wrap, IntKind.signed, IntKind.bits]; omega
      have hil : (ints ns).length < 1000000 := by rw [ints_len]; omega
      have hlit := balloc w2 (.cells #[.int .i64 (x : Int)] 3)
      have hown3 := hown2.alloc (.cells #[.int .i64 (x : Int)] 3)
      have hA3 := hA2.below hlit
      have hgg3 := grown_low hgg (hlit.mono hsz2)
      have HOW : Hid (IOwn (w2.alloc (.cells #[.int .i64 (x : Int)] 3)) w.heap.size u6 (ints ns)) := hown3
      clear hown2 hA2 hgg hlit
      go_wp2_with (at_builtin; refine wpList_appI1 _ rfl _ _ 22 rfl Try.underlying22 w.heap.size _ (ints ns) rfl hown3 ⟨w2.heap.size, 0, none⟩ (x : Int) rfl ?c1 hil ?c2 ?_)
      case c1 => simp
      case c2 => simp; omega
      intro v' w4 hown4 hg4
      have hb4 := below_of_own HOW.out hg4 (by simp; omega)
      have hA4 := hA3.otherQ (fun _ q => q.2) hgl hb4
      have hgg4 := grown_low hgg3 hb4
      rw [← ints_snoc] at hown4
      have HN : Hid ((∀ m, m ∈ ns ++ [x] → m ≤ 1073741824) ∧ (ns ++ [x]).length = i + 1) := ⟨fun m hm => by
        rcases List.mem_append.1 hm with q | q
        · exact HB.out m q
        · simp at q
          omega, by simp [hnl]⟩
      have HS2 : Hid (∀ ms T y, IsLst ms y → L = y ++ T → ms.length ≤ 16384 → (∀ m, m ∈ ms → m ≤ 1073741824) → ms.length = n ∧ ns ++ [x] = ms.take (i + 1) ∧ ∃ y', CodesOf (ms.drop (i + 1)) y' ∧ R2 = y' ++ T) := fun ms T y h1 h2 h3 h4 => (HSTEP.out ms T y h1 h2 h3 h4).2
      clear hown3 hA3 hgg3 HOW hg4 hb4 HB HSTEP HBAD
      go_wp2
      go_roundw
      case rel => exact ⟨i + 1, ns ++ [x], R2, by go_num, by omega, hown4, HN.out.2, HN.out.1, hA4, hgg4, HS2.out⟩
      case measure => simp [intOf]; omega
    · obtain rfl : i = n := by omega
      obtain ⟨oa, oc, rfl, hO, on, of⟩ := hown.fresh (fun x hx => by
        unfold ints at hx
        obtain ⟨m, hm, rfl⟩ := List.mem_map.1 hx
        have := HB.out m hm
        omega)
      have HE : Hid (RlT Q L w g (.returned (.tuple #[.slice oa (ints ns).length oc, .bool true])) wr) := ⟨oa, _, oc, ns, true, R, rfl, hO, ⟨HB.out, by omega⟩, ⟨on, fun ad e _ => of ad e⟩, hA.mono (fun _ q => q.1), hg, fun ms T y h1 h2 h3 h4 => by
        obtain ⟨f1, f2, y', f3, f4⟩ := HF.out ms T y h1 h2 h3 h4
        rw [List.drop_eq_nil_of_le (by omega)] at f3
        have e : y' = [] := f3
        rw [e] at f4
        exact ⟨rfl, by rw [f2, List.take_of_length_le (by omega)], f4⟩⟩
      clear hown hO on of HB HF hA hg HBAD
      go_wp2_with fail
      first | exact HE.out | (go_ret2; exact HE.out)
end Go.Proofs.Ytnbdbahfekneoaa
