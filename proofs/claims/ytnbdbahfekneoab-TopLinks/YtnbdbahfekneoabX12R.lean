/-
  Contracts of the program's number, things and list of numbers (wire).
  Contracts of the program's natural, things and list of natural numbers (wire).
  The contract of the program's read (wire). Written by mk/x12h.py.
  The contract of the program's Decode (wire).
-/
import Derived.Test.YtnbdbahfekneoabX9P
import Derived.Test.YtnbdbahfekneoabW12B
import Derived.Test.YtnbdbahfekneoabR12G
import Derived.Test.YtnbdbahfekneoabBytB
import Derived.Test.YtnbdbahfekneoabX12Q
import Derived.Test.YtnbdbahfekneoabX12P
import Derived.Deep.RegionHeld3
import Derived.Deep.RegionWith
import Derived.BigRegion
namespace Go.Proofs.Ytnbdbahfekneoab
open Go.RowKit

theorem CRdQ.both {Q : Nat → Prop} {w : World} {g : Nat} {L : List Int} (h : CRdQ Q w g L) : CRdQ (fun b => Q b ∧ b < w.heap.size) w g L := by
  obtain ⟨a, l, c, h0, h1, h2, h3, h4⟩ := h
  refine ⟨a, l, c, h0, h1, h2, h3, fun ad e hl => ⟨h4 ad e hl, ?_⟩⟩
  obtain ⟨b, off, rfl, hc⟩ := h2.cells hl
  cases e
  exact World.block_lt_of_cell? _ _ (hc 0 hl)
theorem CRdQ.otherQ {Q : Nat → Prop} {B : Nat} (hQ : ∀ b, Q b → b < B) {w w' : World} {g : Nat} {L : List Int} (h : CRdQ Q w g L) (hg : g < B) (hb : Below B w w') : CRdQ Q w' g L := by
  obtain ⟨a, l, c, h0, h1, h2, h3, h4⟩ := h
  refine ⟨a, l, c, h0, (hb.block g hg).trans h1, ⟨h2.hlen, h2.hcap, h2.hmax, fun hl => ?_, h2.word⟩, h3, h4⟩
  obtain ⟨b, off, rfl, hc⟩ := h2.cells hl
  refine ⟨b, off, rfl, fun i hi => ?_⟩
  rw [World.cell?_of_block (hb.block b (hQ _ (h4 _ rfl hl)))]
  exact hc i hi
theorem ResNum.sound {L R : List Int} {most n : Nat} {err : Int} (h : ResNum L most n err R) (he : err = 0) : ∃ c, IsCode c n ∧ L = c ++ R := by
  obtain ⟨m, k, h1, ⟨_, _, e, _⟩ | ⟨hc, rfl, _, rfl⟩⟩ := h
  · rw [he] at e; cases e
  · obtain ⟨_, _, h2⟩ := h1.pos (by omega)
    exact ⟨L.take k, h2, (List.take_append_drop k L).symm⟩
/-- A number is read. -/
def NmT (Q : Nat → Prop) (L : List Int) (w : World) (g : Nat) (e : Ending) (w' : World) : Prop :=
  ∃ (n : Nat) (ok : Bool) (R : List Int), e = .returned (.tuple #[.int .i64 (n : Int), .bool ok]) ∧ n ≤ 1073741824 ∧ CRdQ Q w' g R ∧ w.grownBy w' (some g) ∧ (ok = true → ∃ c, IsCode c n ∧ L = c ++ R) ∧
    ∀ m c T, IsCode c m → m ≤ 1073741824 → L = c ++ T → ok = true ∧ n = m ∧ R = T
set_option maxRecDepth 20000 in
set_option maxHeartbeats 1600000 in
theorem x12numr_any {Q : Nat → Prop} (g : Nat) (L : List Int) (w : World) (h : CRdQ Q w g L) : Calls Try.prog 49 #[.pointer (some ⟨g, 0, none⟩)] w fun e w' => NmT Q L w g e w' := by
  go_enter Try.func49, Try.ntmps49
  go_wp2_with fail
  refine (c9rnum_any g L 1073741824 _ h).mono ?_
  rintro e w1 ⟨n, er, R, rfl, hr, hA, hg⟩
  have hn := hr.most
  have hwx : IntKind.i64.wrap (n : Int) = n := by simp [IntKind.wrap, IntKind.signed, IntKind.bits]; omega
  have HC : Hid (∀ m c T, IsCode c m → m ≤ 1073741824 → L = c ++ T → er = 0 ∧ n = m ∧ R = T) := fun m c T h1 h2 h3 => by
    obtain ⟨q1, q2, q3⟩ := hr.at h1 h2 (by omega) h3
    exact ⟨q2, q1, q3⟩
  have HS : Hid (er = 0 → ∃ c, IsCode c n ∧ L = c ++ R) := fun e => hr.sound e
  clear hr h
  by_cases z : er = 0
  · subst z
    have HR : Hid (NmT Q L w g (.returned (.tuple #[.int .i64 (n : Int), .bool true])) w1) := ⟨n, true, R, rfl, hn, hA, hg, fun _ => HS.out rfl, fun m c T h1 h2 h3 => ⟨rfl, (HC.out m c T h1 h2 h3).2⟩⟩
    clear hA hg HC HS
    go_wp2
    go_ret2
    exact HR.out
  · have zd : (er == 0) = false := by simp [z]
    have HR : Hid (NmT Q L w g (.returned (.tuple #[.int .i64 (n : Int), .bool false])) w1) := ⟨n, false, R, rfl, hn, hA, hg, fun e => (by cases e), fun m c T h1 h2 h3 => absurd (HC.out m c T h1 h2 h3).1 z⟩
    clear hA hg HC HS z
    go_wp2
    go_ret2
    exact HR.out
/-- So many numbers are read. -/
def ThT (Q : Nat → Prop) (L : List Int) (w : World) (g count : Nat) (e : Ending) (w' : World) : Prop :=
  ∃ a l c ns ok R, e = .returned (.tuple #[.slice a l c, .bool ok]) ∧ Lsts w' a l c (ints ns) ∧ ((∀ n, n ∈ ns → n ≤ 1073741824) ∧ ns.length ≤ count) ∧ ((a = none → c = 0) ∧ ∀ ad, a = some ad → 0 < l → w.heap.size ≤ ad.block ∧ ∃ cur, w'.heap[ad.block]? = some (.cells cur 3 (0, 0))) ∧ CRdQ Q w' g R ∧ w.grownBy w' (some g) ∧ (ok = true → ns.length = count ∧ ∃ y, CodesOf ns y ∧ L = y ++ R) ∧
    ∀ ms T y, CodesOf ms y → L = y ++ T → ms.length = count → (∀ m, m ∈ ms → m ≤ 1073741824) → ok = true ∧ ns = ms ∧ R = T
set_option maxRecDepth 20000 in
set_option maxHeartbeats 6400000 in
theorem x12th_any {Q : Nat → Prop} (g : Nat) (L : List Int) (count : Nat) (w : World) (h : CRdQ Q w g L) (hct : count ≤ 16384) :
    Calls Try.prog 48 #[.pointer (some ⟨g, 0, none⟩), .int .i64 (count : Int), .func (.func 49) #[] #[]] w fun e w' => ThT Q L w g count e w' := by
  have hgl := h.lt
  replace h := h.both
  have hcf := Try.call49
  have HBAD : Hid (∀ (wx : World) (R : List Int), CRdQ (fun b => Q b ∧ b < w.heap.size) wx g R → w.grownBy wx (some g) → (∀ ms T y, CodesOf ms y → L = y ++ T → ms.length = count → (∀ m, m ∈ ms → m ≤ 1073741824) → False) → Hid (ThT Q L w g count (.returned (.tuple #[.slice none 0 0, .bool false])) wx)) := fun wx R hA hg hn => ⟨none, 0, 0, [], false, R, rfl, Lsts.nil _, ⟨fun n hn => absurd hn (by simp), by simp⟩, ⟨fun _ => rfl, fun _ e => (by cases e)⟩, hA.mono (fun _ q => q.1), hg, fun e => (by cases e), fun ms T y h1 h2 h3 h4 => absurd (hn ms T y h1 h2 h3 h4) id⟩
  go_enter Try.func48, Try.ntmps48
  go_wp2_with fail
  go_loopw [8, 12] (fun v6 v7 wr => ∃ (i : Nat) (ns : List Nat) (R : List Int), v7 = .int .i64 i ∧ i ≤ count ∧ IOwn wr w.heap.size v6 (ints ns) ∧ ns.length = i ∧ Hid (∀ m, m ∈ ns → m ≤ 1073741824) ∧ CRdQ (fun b => Q b ∧ b < w.heap.size) wr g R ∧ w.grownBy wr (some g) ∧ Hid (∃ y, CodesOf ns y ∧ L = y ++ R) ∧ Hid (∀ ms T y, CodesOf ms y → L = y ++ T → ms.length = count → (∀ m, m ∈ ms → m ≤ 1073741824) → ns = ms.take i ∧ ∃ y', CodesOf (ms.drop i) y' ∧ R = y' ++ T)) (fun _ v7 _ => count - (intOf v7).toNat)
  case atStart => exact ⟨0, [], L, rfl, Nat.zero_le _, IOwn.nil _ _, rfl, fun m hm => absurd hm (by simp), h, World.grownBy.refl _ _, ⟨[], rfl, rfl⟩, fun ms T y h1 h2 h3 h4 => ⟨by simp, y, h1, h2⟩⟩
  case round =>
    clear h
    obtain ⟨i, ns, R, rfl, hi, hown, hnl, HB, hA, hg, HS, HF⟩ := hrel
    by_cases hlt : i < count
    · have hlti : (i : Int) < (count : Int) := by omega
      have hsz := hg.size
      go_wp2_with fail
      refine (x12numr_any g R _ hA).mono ?_
      rintro e w2 ⟨x, ok, R2, rfl, hxb, hA2, hg2, hs2, hc2⟩
      have hgg := grown_then hg hg2
      have hown2 := hown.grown hg2 hgl
      have hsz2 := hgg.size
      have HS2 : Hid (ok = true → ∃ y, CodesOf (ns ++ [x]) y ∧ L = y ++ R2) := fun e => by
        obtain ⟨y, f1, f2⟩ := HS.out
        obtain ⟨c, f3, f4⟩ := hs2 e
        exact ⟨y ++ c, f1.snoc f3, by rw [f2, f4, List.append_assoc]⟩
      have HSTEP : Hid (∀ ms T y, CodesOf ms y → L = y ++ T → ms.length = count → (∀ m, m ∈ ms → m ≤ 1073741824) → ok = true ∧ ns ++ [x] = ms.take (i + 1) ∧ ∃ y', CodesOf (ms.drop (i + 1)) y' ∧ R2 = y' ++ T) := fun ms T y h1 h2 h3 h4 => by
        obtain ⟨f2, y', f3, f4⟩ := HF.out ms T y h1 h2 h3 h4
        have hil : i < ms.length := by omega
        rw [List.drop_eq_getElem_cons hil] at f3
        obtain ⟨c, r, k1, k2, rfl⟩ := f3
        rw [List.append_assoc] at f4
        have hm := h4 _ (List.getElem_mem hil)
        obtain ⟨q1, q2, q3⟩ := hc2 _ _ _ k1 hm f4
        refine ⟨q1, ?_, r, k2, q3⟩
        rw [q2, f2, List.take_add_one]
        simp [hil]
      clear hs2 hc2 HS HF hA hg hg2 hown
      cases ok with
      | false =>
        have HE := HBAD.out w2 R2 hA2 hgg (fun ms T y h1 h2 h3 h4 => by cases (HSTEP.out ms T y h1 h2 h3 h4).1)
        clear HBAD hA2 hgg hown2 HSTEP HB HS2
        go_wp2_with fail
        first | exact HE.out | (go_ret2; exact HE.out)
      | true =>
        have hil : (ints ns).length < 1000000 := by rw [ints_len]; omega
        have hlit := balloc w2 (.cells #[.int .i64 (x : Int)] 3)
        have hown3 := hown2.alloc (.cells #[.int .i64 (x : Int)] 3)
        have hA3 := hA2.below hlit
        have hgg3 := grown_low hgg (hlit.mono hsz2)
        have HOW : Hid (IOwn (w2.alloc (.cells #[.int .i64 (x : Int)] 3)) w.heap.size u8 (ints ns)) := hown3
        clear hown2 hA2 hgg hlit
        go_wp2_with (at_builtin; refine wpList_appI1 _ rfl _ _ 28 rfl Try.underlying28 w.heap.size _ (ints ns) rfl hown3 ⟨w2.heap.size, 0, none⟩ (x : Int) rfl ?c1 hil ?c2 ?_)
        case c1 => simp
        case c2 => simp; omega
        intro v' w4 hown4 hg4
        have hb4 := below_of_own HOW.out hg4 (by simp; omega)
        have hA4 := hA3.otherQ (fun _ q => q.2) hgl hb4
        have hgg4 := grown_low hgg3 hb4
        rw [← ints_snoc] at hown4
        have HN : Hid ((∀ m, m ∈ ns ++ [x] → m ≤ 1073741824) ∧ (ns ++ [x]).length = i + 1) := ⟨fun m hm => by
          rcases List.mem_append.1 hm with q | q
          · exact HB.out m q
          · simp at q
            omega, by simp [hnl]⟩
        have HS3 : Hid (∃ y, CodesOf (ns ++ [x]) y ∧ L = y ++ R2) := HS2.out (by first | rfl | trivial)
        have HS4 : Hid (∀ ms T y, CodesOf ms y → L = y ++ T → ms.length = count → (∀ m, m ∈ ms → m ≤ 1073741824) → ns ++ [x] = ms.take (i + 1) ∧ ∃ y', CodesOf (ms.drop (i + 1)) y' ∧ R2 = y' ++ T) := fun ms T y h1 h2 h3 h4 => (HSTEP.out ms T y h1 h2 h3 h4).2
        clear hown3 hA3 hgg3 HOW hg4 hb4 HB HSTEP HBAD HS2
        go_wp2
        go_roundw
        case rel => exact ⟨i + 1, ns ++ [x], R2, by go_num, by omega, hown4, HN.out.2, HN.out.1, hA4, hgg4, HS3, HS4⟩
        case measure => simp [intOf]; omega
    · obtain rfl : i = count := by omega
      obtain ⟨oa, oc, rfl, hO, on, of⟩ := hown.fresh (fun x hx => by
        unfold ints at hx
        obtain ⟨m, hm, rfl⟩ := List.mem_map.1 hx
        have := HB.out m hm
        omega)
      have HE : Hid (ThT Q L w g i (.returned (.tuple #[.slice oa (ints ns).length oc, .bool true])) wr) := ⟨oa, _, oc, ns, true, R, rfl, hO, ⟨HB.out, by omega⟩, ⟨on, fun ad e _ => of ad e⟩, hA.mono (fun _ q => q.1), hg, fun _ => ⟨hnl, HS.out⟩, fun ms T y h1 h2 h3 h4 => by
        obtain ⟨f2, y', f3, f4⟩ := HF.out ms T y h1 h2 h3 h4
        rw [List.drop_eq_nil_of_le (by omega)] at f3
        have e : y' = [] := f3
        rw [e] at f4
        exact ⟨rfl, by rw [f2, List.take_of_length_le (by omega)], f4⟩⟩
      clear hown hO on of HB HF hA hg HBAD HS
      go_wp2_with fail
      first | exact HE.out | (go_ret2; exact HE.out)
/-- A list of numbers is read. -/
def LsT (Q : Nat → Prop) (L : List Int) (w : World) (g : Nat) (e : Ending) (w' : World) : Prop :=
  ∃ a l c ns ok R, e = .returned (.tuple #[.slice a l c, .bool ok]) ∧ Lsts w' a l c (ints ns) ∧ ((∀ n, n ∈ ns → n ≤ 1073741824) ∧ ns.length ≤ 16384) ∧ ((a = none → c = 0) ∧ ∀ ad, a = some ad → 0 < l → w.heap.size ≤ ad.block ∧ ∃ cur, w'.heap[ad.block]? = some (.cells cur 3 (0, 0))) ∧ CRdQ Q w' g R ∧ w.grownBy w' (some g) ∧ (ok = true → ∃ y, IsLst ns y ∧ L = y ++ R) ∧
    ∀ ms T y, IsLst ms y → L = y ++ T → ms.length ≤ 16384 → (∀ m, m ∈ ms → m ≤ 1073741824) → ok = true ∧ ns = ms ∧ R = T
set_option maxRecDepth 20000 in
set_option maxHeartbeats 3200000 in
theorem x12ls_any {Q : Nat → Prop} (g : Nat) (L : List Int) (w : World) (h : CRdQ Q w g L) :
    Calls Try.prog 50 #[.pointer (some ⟨g, 0, none⟩), .func (.func 49) #[] #[]] w fun e w' => LsT Q L w g e w' := by
  go_enter Try.func50, Try.ntmps50
  go_wp2_with fail
  refine (c9rnum_any g L 16384 _ h).mono ?_
  rintro e w1 ⟨n, e1, L1, rfl, hr1, hA1, hg1⟩
  have hn := hr1.most
  have hsz1 := hg1.size
  have HR1 : Hid (ResNum L 16384 n e1 L1) := hr1
  clear h hr1
  by_cases z1 : e1 = 0
  case neg =>
    have HB : Hid (LsT Q L w g (.returned (.tuple #[.slice none 0 0, .bool false])) w1) := ⟨none, 0, 0, [], false, L1, rfl, Lsts.nil _, ⟨fun n hn => absurd hn (by simp), by simp⟩, ⟨fun _ => rfl, fun _ e => (by cases e)⟩, hA1, hg1, fun e => (by cases e), fun ms T y h1 h2 h3 h4 => by
      obtain ⟨c, r, k1, k2, rfl⟩ := h1
      rw [List.append_assoc] at h2
      exact absurd (HR1.out.at k1 h3 (by omega) h2).2.1 z1⟩
    have z1d : (e1 != 0) = true := by simp [z1]
    have z1e : (e1 == 0) = false := by simp [z1]
    clear hA1 hg1 HR1 z1
    go_wp2_with fail
    first | exact HB.out | (go_ret2; exact HB.out)
  subst z1
  have hwx : IntKind.i64.wrap (n : Int) = n := by simp [IntKind.wrap, IntKind.signed, IntKind.bits]; omega
  have HT := (show Hid _ from x12th_any g L1 n w1 hA1 hn)
  clear hA1
  go_wp2_with fail
  refine Calls.mono HT.out ?_
  rintro e w2 ⟨a, l, c, ns, ok, R, rfl, k1, ⟨k2, k3⟩, ⟨k4, k5⟩, k6, k7, k8, k9⟩
  have HE : Hid (LsT Q L w g (.returned (.tuple #[.slice a l c, .bool ok])) w2) := ⟨a, l, c, ns, ok, R, rfl, k1, ⟨k2, by omega⟩, ⟨k4, fun ad e hp => ⟨Nat.le_trans hsz1 (k5 ad e hp).1, (k5 ad e hp).2⟩⟩, k6, grown_then hg1 k7, fun e => by
    obtain ⟨c0, f1, f2⟩ := HR1.out.sound rfl
    obtain ⟨f3, y, f4, f5⟩ := k8 e
    exact ⟨c0 ++ y, ⟨c0, y, by rw [f3]; exact f1, f4, rfl⟩, by rw [f2, f5, List.append_assoc]⟩, fun ms T y h1 h2 h3 h4 => by
    obtain ⟨c0, r, q1, q2, rfl⟩ := h1
    rw [List.append_assoc] at h2
    obtain ⟨p1, -, p3⟩ := HR1.out.at q1 h3 (by omega) h2
    exact k9 ms T r q2 p3 p1.symm h4⟩
  clear HT HR1 k1 k2 k3 k4 k5 k6 k7 k8 k9 hg1
  go_wp2
  go_ret2
  exact HE.out
end Go.Proofs.Ytnbdbahfekneoab

namespace Go.Proofs.Ytnbdbahfekneoab
open Go.RowKit

theorem ResBytR.sound {L ys R : List Int} {most err : Int} (h : ResBytR L most ys err R) (he : err = 0) : ∃ cd, IsCode cd ys.length ∧ L = cd ++ (ys ++ R) := by
  obtain ⟨m, k, h1, ⟨_, _, e, _⟩ | ⟨hc, rfl, _, rfl⟩⟩ := h
  · rw [he] at e; cases e
  · obtain ⟨_, _, h2⟩ := h1.pos (by omega)
    have hl : ((L.drop k).take m).length = m := by simp; omega
    refine ⟨L.take k, by rw [hl]; exact h2, ?_⟩
    rw [← List.drop_drop, List.take_append_drop, List.take_append_drop]
theorem ResBytR.at12 {c bs T L ys R : List Int} {most err : Int} (h : ResBytR L most ys err R) (hc : IsCode c bs.length) (hn : (bs.length : Int) ≤ most) (hb : bs.length < 18446744073709551616) (hL : L = c ++ (bs ++ T)) : ys = bs ∧ err = 0 ∧ R = T := by
  subst hL
  refine h.unique ⟨bs.length, c.length, NextT.of_code hc hb, .inr ⟨fun e => ?_, by simp, rfl, by rw [← List.drop_drop]; simp⟩⟩
  rcases e with e | e | e | e
  · exact hc.nonempty (List.eq_nil_of_length_eq_zero e)
  · omega
  · omega
  · simp at e
    omega
/-- The number that bytes are has these bytes. -/
theorem bytes_of_read {ys zs : List Int} {er : Int} (hd : Digs 256 ys) (ht : Top ys.reverse) (h : Res (val 256 ys.reverse) zs er) (he : er = 0) : ResBytes zs ys := by
  rcases h with ⟨_, h1, h2, h3, h4⟩ | ⟨e, _⟩
  · have hr : rightB zs = true := by
      unfold rightB
      simp
      refine ⟨h3, ?_⟩
      rcases h2 with e | e
      · exact .inl e
      · exact .inr e
    unfold ResBytes
    rw [if_pos hr]
    exact ⟨hd, ht, h4.symm⟩
  · rw [he] at e; cases e
theorem top_first {ys : List Int} (h : ys = [] ∨ ys.getD 0 0 ≠ 0) : Top ys.reverse := by
  cases ys with
  | nil => exact .inl rfl
  | cons y l =>
    right
    rcases h with e | e
    · cases e
    · simpa [List.getD] using e
theorem first_top {ys : List Int} (h : Top ys.reverse) : ys = [] ∨ ys.getD 0 0 ≠ 0 := by
  cases ys with
  | nil => exact .inl rfl
  | cons y l =>
    right
    rcases h with e | e
    · simp at e
    · simpa [List.getD] using e
/-- A natural number is read. -/
def NtT (Q : Nat → Prop) (L : List Int) (w : World) (g : Nat) (e : Ending) (w' : World) : Prop :=
  ∃ a l c zs ok R, e = .returned (.tuple #[.slice a l c, .bool ok]) ∧ Nums w' a l c zs ∧ CRdQ Q w' g R ∧ w.grownBy w' (some g) ∧ (ok = true → ∃ cd bs, IsCode cd bs.length ∧ L = cd ++ (bs ++ R) ∧ ResBytes zs bs) ∧
    ∀ zs' bs cd T, IsCode cd bs.length → ResBytes zs' bs → rightB zs' = true → zs'.length ≤ 4 → Digs 18446744073709551616 zs' → L = cd ++ (bs ++ T) → ok = true ∧ zs = zs' ∧ R = T
set_option maxRecDepth 20000 in
set_option maxHeartbeats 3200000 in
theorem x12nt_any {Q : Nat → Prop} (g : Nat) (L : List Int) (w : World) (h : CRdQ Q w g L) : Calls Try.prog 52 #[.pointer (some ⟨g, 0, none⟩)] w fun e w' => NtT Q L w g e w' := by
  go_enter Try.func52, Try.ntmps52
  go_wp2_with fail
  refine (c9rbyt_any g L 32 _ h (by decide)).mono ?_
  rintro e w1 ⟨ya, yl, yc, ys, er, R, rfl, ⟨hY, -, -⟩, hr, hA, hg⟩
  have hyl := hY.hlen
  have hym := hY.hmax
  have hyc := hY.hcap
  unfold maxLen at hym
  have HC : Hid (∀ zs' bs cd T, IsCode cd bs.length → ResBytes zs' bs → rightB zs' = true → zs'.length ≤ 4 → Digs 18446744073709551616 zs' → L = cd ++ (bs ++ T) → er = 0 ∧ ys = bs ∧ R = T) := fun zs' bs cd T h1 h2 h3 h4 h5 h6 => by
    have hb := natbytes_len h2 h3 h4 h5
    obtain ⟨q1, q2, q3⟩ := hr.at12 h1 (by omega) (by omega) h6
    exact ⟨q2, q1, q3⟩
  have HS : Hid (er = 0 → ∃ cd, IsCode cd ys.length ∧ L = cd ++ (ys ++ R)) := fun e => hr.sound e
  have HBAD : Hid ((∀ zs' bs cd T, IsCode cd bs.length → ResBytes zs' bs → rightB zs' = true → zs'.length ≤ 4 → Digs 18446744073709551616 zs' → L = cd ++ (bs ++ T) → False) → Hid (NtT Q L w g (.returned (.tuple #[.slice none 0 0, .bool false])) w1)) := fun hn => ⟨none, 0, 0, [], false, R, rfl, Nums.nil _, hA, hg, fun e => (by cases e), fun zs' bs cd T h1 h2 h3 h4 h5 h6 => absurd (hn zs' bs cd T h1 h2 h3 h4 h5 h6) id⟩
  clear hr h
  by_cases z : er = 0
  case neg =>
    have HE := HBAD.out (fun zs' bs cd T h1 h2 h3 h4 h5 h6 => z (HC.out zs' bs cd T h1 h2 h3 h4 h5 h6).1)
    have zd : (er != 0) = true := by simp [z]
    have ze : (er == 0) = false := by simp [z]
    clear HBAD HC HS z hA hg hY
    go_wp2_with fail
    first | exact HE.out | (go_ret2; exact HE.out)
  subst z
  have go : Hid ((ys = [] ∨ ys.getD 0 0 ≠ 0) → Calls Try.prog 66 #[.slice ya yl yc] w1 fun e w' => ∃ a l c zs er, e = .returned (.tuple #[.slice a l c, .int .i64 er]) ∧ (er = 0 → Hid (NtT Q L w g (.returned (.tuple #[.slice a l c, .bool true])) w')) ∧ (er ≠ 0 → Hid (NtT Q L w g (.returned (.tuple #[.slice a l c, .bool false])) w')) ∧ zs = zs) := fun hf => by
    refine (read_any ya yl yc ys w1 hY).mono ?_
    rintro e w2 ⟨a, l, c, zs, er, rfl, hN, hRes, hb⟩
    have comp : ∀ zs' bs cd T, IsCode cd bs.length → ResBytes zs' bs → rightB zs' = true → zs'.length ≤ 4 → Digs 18446744073709551616 zs' → L = cd ++ (bs ++ T) → er = 0 ∧ zs = zs' ∧ R = T := fun zs' bs cd T h1 h2 h3 h4 h5 h6 => by
      obtain ⟨-, q2, q3⟩ := HC.out zs' bs cd T h1 h2 h3 h4 h5 h6
      subst q2
      have e := nat_again h2 h3 h5 hRes
      refine ⟨?_, e, q3⟩
      rcases hRes with ⟨e0, _⟩ | ⟨_, e1, xs, x1, x2, x3, x4⟩
      · exact e0
      · exfalso
        have h7 := h2
        unfold ResBytes at h7
        rw [if_pos h3] at h7
        have := val_inj (B := 18446744073709551616) (by decide) x1 h5 x2 (top_right h3).1 (x3.trans h7.2.2)
        rw [this] at x4
        omega
    have hA2 := hA.below hb
    have hg2 := grown_low hg (hb.mono hg.size)
    refine ⟨a, l, c, zs, er, rfl, fun e => ?_, fun e => ?_, rfl⟩
    · obtain ⟨cd, f1, f2⟩ := HS.out rfl
      exact ⟨a, l, c, zs, true, R, rfl, hN, hA2, hg2, fun _ => ⟨cd, ys, f1, f2, bytes_of_read hY.digs (top_first hf) hRes e⟩, fun zs' bs cd T h1 h2 h3 h4 h5 h6 => ⟨rfl, (comp zs' bs cd T h1 h2 h3 h4 h5 h6).2⟩⟩
    · exact ⟨a, l, c, zs, false, R, rfl, hN, hA2, hg2, fun e => (by cases e), fun zs' bs cd T h1 h2 h3 h4 h5 h6 => absurd (comp zs' bs cd T h1 h2 h3 h4 h5 h6).1 e⟩
  have HZ : Hid (ys.getD 0 0 = 0 → 0 < yl → Hid (NtT Q L w g (.returned (.tuple #[.slice none 0 0, .bool false])) w1)) := fun hz hp => HBAD.out (fun zs' bs cd T h1 h2 h3 h4 h5 h6 => by
    obtain ⟨-, q2, -⟩ := HC.out zs' bs cd T h1 h2 h3 h4 h5 h6
    subst q2
    unfold ResBytes at h2
    rw [if_pos h3] at h2
    rcases first_top h2.2.1 with e | e
    · rw [e] at hyl; simp at hyl; omega
    · exact e hz)
  have HY : Hid (ys.length = yl) := hyl
  by_cases h0 : yl = 0
  · subst h0
    have HG := (show Hid _ from go.out (.inl (List.eq_nil_of_length_eq_zero hyl)))
    clear go HBAD HZ HC HS hA hg hY hyl
    go_wp2_with fail
    refine Calls.mono HG.out ?_
    rintro e w2 ⟨a, l, c, zs, er, rfl, h1, h2, -⟩
    have H1 := (show Hid _ from h1)
    have H2 := (show Hid _ from h2)
    clear h1 h2 HG
    by_cases z : er = 0
    · subst z
      go_wp2
      go_ret2
      exact (H1.out (by first | rfl | trivial)).out
    · have zd : (er == 0) = false := by simp [z]
      have HE := H2.out z
      clear H1 H2 z
      go_wp2
      go_ret2
      exact HE.out
  · have hp : (0 : Int) < (yl : Int) := by omega
    obtain ⟨b, off, rfl, hc⟩ := hY.cells (by omega)
    obtain ⟨x, hx⟩ : ∃ x, x = ys.getD 0 0 := ⟨_, rfl⟩
    have hc1 : w1.cell? ⟨b, off, none⟩ = some (.int .u8 x) := by rw [hx]; have := hc 0 (by omega); simpa using this
    by_cases hx0 : x = 0
    · have HE := HZ.out (by rw [← hx]; exact hx0) (by omega)
      subst hx0
      clear go HBAD HZ HC HS hA hg hY hyl hc hx
      go_wp2_with fail
      first | exact HE.out | (go_ret2; exact HE.out)
    · have hxd : (x == 0) = false := by simp [hx0]
      have HG := (show Hid _ from go.out (.inr (by rw [← hx]; exact hx0)))
      clear go HBAD HZ HC HS hA hg hY hyl hc hx hx0
      go_wp2_with fail
      refine Calls.mono HG.out ?_
      rintro e w2 ⟨a, l, c, zs, er, rfl, h1, h2, -⟩
      have H1 := (show Hid _ from h1)
      have H2 := (show Hid _ from h2)
      clear h1 h2 HG hc1
      by_cases z : er = 0
      · subst z
        go_wp2
        go_ret2
        exact (H1.out (by first | rfl | trivial)).out
      · have zd : (er == 0) = false := by simp [z]
        have HE := H2.out z
        clear H1 H2 z
        go_wp2
        go_ret2
        exact HE.out
/-- So many natural numbers are read. -/
def RgtN (nats : List (List Int)) : Prop := ∀ i, i < nats.length → rightB (nats.getD i []) = true ∧ (nats.getD i []).length ≤ 4
def TnT (Q : Nat → Prop) (L : List Int) (w : World) (g count : Nat) (e : Ending) (w' : World) : Prop :=
  ∃ v ns ok R, e = .returned (.tuple #[v, .bool ok]) ∧ NHd w' w.heap.size v ns ∧ ns.length ≤ count ∧ CRdQ Q w' g R ∧ w.grownBy w' (some g) ∧ (ok = true → ns.length = count ∧ ∃ bss y, NatsB ns bss ∧ BlobsOf bss y ∧ L = y ++ R) ∧
    ∀ ms bss T y, NatsB ms bss → BlobsOf bss y → L = y ++ T → ms.length = count → RgtN ms → DigsN ms → ok = true ∧ ns = ms ∧ R = T
theorem natsB_snoc {ns bss : List (List Int)} {zs bs : List Int} (h : NatsB ns bss) (k : ResBytes zs bs) : NatsB (ns ++ [zs]) (bss ++ [bs]) := by
  refine ⟨by simp [h.1], fun i hi => ?_⟩
  by_cases q : i < ns.length
  · rw [nh_snoc q, nh_snoc (by rw [h.1]; exact q)]
    exact h.2 i q
  · obtain rfl : i = ns.length := by simp at hi; omega
    rw [nh_last, ← h.1, nh_last]
    exact k
set_option maxRecDepth 20000 in
set_option maxHeartbeats 6400000 in
theorem x12tn_any {Q : Nat → Prop} (g : Nat) (L : List Int) (count : Nat) (w : World) (h : CRdQ Q w g L) (hct : count ≤ 16384) :
    Calls Try.prog 65 #[.pointer (some ⟨g, 0, none⟩), .int .i64 (count : Int), .func (.func 52) #[] #[]] w fun e w' => TnT Q L w g count e w' := by
  have hgl := h.lt
  replace h := h.both
  have hcf := Try.call52
  have HBAD : Hid (∀ (wx : World) (R : List Int), CRdQ (fun b => Q b ∧ b < w.heap.size) wx g R → w.grownBy wx (some g) → (∀ ms bss T y, NatsB ms bss → BlobsOf bss y → L = y ++ T → ms.length = count → RgtN ms → DigsN ms → False) → Hid (TnT Q L w g count (.returned (.tuple #[.slice none 0 0, .bool false])) wx)) := fun wx R hA hg hn => ⟨_, [], false, R, rfl, NHd.nil _ _, Nat.zero_le _, hA.mono (fun _ q => q.1), hg, fun e => (by cases e), fun ms bss T y h1 h2 h3 h4 h5 h6 => absurd (hn ms bss T y h1 h2 h3 h4 h5 h6) id⟩
  go_enter Try.func65, Try.ntmps65
  go_wp2_with fail
  go_loopw [8, 12] (fun v6 v7 wr => ∃ (i : Nat) (ns : List (List Int)) (R : List Int), v7 = .int .i64 i ∧ i ≤ count ∧ NHd wr w.heap.size v6 ns ∧ ns.length = i ∧ CRdQ (fun b => Q b ∧ b < w.heap.size) wr g R ∧ w.grownBy wr (some g) ∧ Hid (∃ bss y, NatsB ns bss ∧ BlobsOf bss y ∧ L = y ++ R) ∧ Hid (∀ ms bss T y, NatsB ms bss → BlobsOf bss y → L = y ++ T → ms.length = count → RgtN ms → DigsN ms → ns = ms.take i ∧ ∃ y', BlobsOf (bss.drop i) y' ∧ R = y' ++ T)) (fun _ v7 _ => count - (intOf v7).toNat)
  case atStart => exact ⟨0, [], L, rfl, Nat.zero_le _, NHd.nil _ _, rfl, h, World.grownBy.refl _ _, ⟨[], [], ⟨rfl, fun i hi => absurd hi (by simp)⟩, rfl, rfl⟩, fun ms bss T y h1 h2 h3 h4 h5 h6 => ⟨by simp, y, h2, h3⟩⟩
  case round =>
    clear h
    obtain ⟨i, ns, R, rfl, hi, hown, hnl, hA, hg, HS, HF⟩ := hrel
    by_cases hlt : i < count
    · have hlti : (i : Int) < (count : Int) := by omega
      have hsz := hg.size
      have hhd := hA.head
      go_wp2_with fail
      refine (x12nt_any g R _ hA).mono ?_
      rintro e w2 ⟨za, zl, zc, zs, ok, R2, rfl, hZ, hA2, hg2, hs2, hc2⟩
      have hgg := grown_then hg hg2
      have hown2 := hown.head hg2 hhd (fun b e => by have := (hown.own b e).2.1; omega)
      have hsz2 := hgg.size
      have HS2 : Hid (ok = true → ∃ bss y, NatsB (ns ++ [zs]) bss ∧ BlobsOf bss y ∧ L = y ++ R2) := fun e => by
        obtain ⟨bss, y, f0, f1, f2⟩ := HS.out
        obtain ⟨cd, bs, f3, f4, f5⟩ := hs2 e
        exact ⟨bss ++ [bs], y ++ (cd ++ bs), natsB_snoc f0 f5, f1.snoc f3, by rw [f2, f4]; simp⟩
      have HSTEP : Hid (∀ ms bss T y, NatsB ms bss → BlobsOf bss y → L = y ++ T → ms.length = count → RgtN ms → DigsN ms → ok = true ∧ ns ++ [zs] = ms.take (i + 1) ∧ ∃ y', BlobsOf (bss.drop (i + 1)) y' ∧ R2 = y' ++ T) := fun ms bss T y h1 h2 h3 h4 h5 h6 => by
        obtain ⟨f2, y', f3, f4⟩ := HF.out ms bss T y h1 h2 h3 h4 h5 h6
        have hil : i < ms.length := by omega
        have hib : i < bss.length := by rw [h1.1]; exact hil
        rw [List.drop_eq_getElem_cons hib] at f3
        obtain ⟨c, r, k1, k2, rfl⟩ := f3
        rw [List.append_assoc, List.append_assoc] at f4
        have hb := h1.2 i hil
        rw [show bss.getD i [] = bss[i] by simp [List.getD, hib]] at hb
        obtain ⟨q1, q2, q3⟩ := hc2 _ _ _ _ k1 hb (h5 i hil).1 (h5 i hil).2 (h6 i hil) f4
        refine ⟨q1, ?_, r, k2, q3⟩
        rw [q2, f2, List.take_add_one]
        simp [hil, List.getD]
      clear hs2 hc2 HS HF hA hg hg2 hown hhd
      cases ok with
      | false =>
        have HE := HBAD.out w2 R2 hA2 hgg (fun ms bss T y h1 h2 h3 h4 h5 h6 => by cases (HSTEP.out ms bss T y h1 h2 h3 h4 h5 h6).1)
        clear HBAD hA2 hgg hown2 HSTEP HS2 hZ
        go_wp2_with fail
        first | exact HE.out | (go_ret2; exact HE.out)
      | true =>
        have hil : ns.length < 1000000 := by omega
        have hlit := balloc w2 (.cells #[.slice za zl zc] 53)
        have hown3 := hown2.below hlit
        have hZ3 := hZ.below hlit
        have hA3 := hA2.below hlit
        have hgg3 := grown_low hgg (hlit.mono hsz2)
        have HOW : Hid (NHd (w2.alloc (.cells #[.slice za zl zc] 53)) w.heap.size u8 ns) := hown3
        clear hown2 hA2 hgg hlit hZ
        go_wp2_with (at_builtin; refine wpList_appNH _ rfl _ _ 29 rfl Try.underlying29 w.heap.size _ ns rfl hown3 w2.heap.size za zl zc zs rfl ?c1 hZ3 hil ?c2 ?_)
        case c1 => simp
        case c2 => simp; omega
        intro v' w4 hown4 hg4
        have hb4 := HOW.out.low hg4 (by simp; omega)
        have hA4 := hA3.otherQ (fun _ q => q.2) hgl hb4
        have hgg4 := grown_low hgg3 hb4
        have HN : Hid ((ns ++ [zs]).length = i + 1) := by show _ = _; simp [hnl]
        have HS3 : Hid (∃ bss y, NatsB (ns ++ [zs]) bss ∧ BlobsOf bss y ∧ L = y ++ R2) := HS2.out (by first | rfl | trivial)
        have HS4 : Hid (∀ ms bss T y, NatsB ms bss → BlobsOf bss y → L = y ++ T → ms.length = count → RgtN ms → DigsN ms → ns ++ [zs] = ms.take (i + 1) ∧ ∃ y', BlobsOf (bss.drop (i + 1)) y' ∧ R2 = y' ++ T) := fun ms bss T y h1 h2 h3 h4 h5 h6 => (HSTEP.out ms bss T y h1 h2 h3 h4 h5 h6).2
        clear hown3 hA3 hgg3 HOW hg4 hb4 HSTEP HBAD HS2 hZ3
        go_wp2
        go_roundw
        case rel => exact ⟨i + 1, ns ++ [zs], R2, by go_num, by omega, hown4, HN.out, hA4, hgg4, HS3, HS4⟩
        case measure => simp [intOf]; omega
    · obtain rfl : i = count := by omega
      have HE : Hid (TnT Q L w g i (.returned (.tuple #[u8, .bool true])) wr) := ⟨_, ns, true, R, rfl, hown, by omega, hA.mono (fun _ q => q.1), hg, fun _ => ⟨hnl, HS.out⟩, fun ms bss T y h1 h2 h3 h4 h5 h6 => by
        obtain ⟨f2, y', f3, f4⟩ := HF.out ms bss T y h1 h2 h3 h4 h5 h6
        rw [List.drop_eq_nil_of_le (by rw [h1.1]; omega)] at f3
        have e : y' = [] := f3
        rw [e] at f4
        exact ⟨rfl, by rw [f2, List.take_of_length_le (by omega)], f4⟩⟩
      obtain ⟨oa, oc, rfl, -, -⟩ := hown.row
      clear hown HF hA hg HBAD HS
      go_wp2_with fail
      first | exact HE.out | (go_ret2; exact HE.out)
/-- A list of natural numbers is read. -/
def LnT (Q : Nat → Prop) (L : List Int) (w : World) (g : Nat) (e : Ending) (w' : World) : Prop :=
  ∃ v ns ok R, e = .returned (.tuple #[v, .bool ok]) ∧ NHd w' w.heap.size v ns ∧ ns.length ≤ 16384 ∧ CRdQ Q w' g R ∧ w.grownBy w' (some g) ∧ (ok = true → ∃ bss y, NatsB ns bss ∧ IsBlobs bss y ∧ L = y ++ R) ∧
    ∀ ms bss T y, NatsB ms bss → IsBlobs bss y → L = y ++ T → ms.length ≤ 16384 → RgtN ms → DigsN ms → ok = true ∧ ns = ms ∧ R = T
theorem NHd.base {w : World} {b b' : Nat} {v : Value} {ns : List (List Int)} (h : NHd w b v ns) (hb : b' ≤ b) : NHd w b' v ns := by
  rcases h with h | ⟨q, cap, cur, h1, h2, h3⟩
  · exact .inl h
  · exact .inr ⟨q, cap, cur, h1, Nat.le_trans hb h2, h3⟩
set_option maxRecDepth 20000 in
set_option maxHeartbeats 3200000 in
theorem x12lnr_any {Q : Nat → Prop} (g : Nat) (L : List Int) (w : World) (h : CRdQ Q w g L) :
    Calls Try.prog 51 #[.pointer (some ⟨g, 0, none⟩), .func (.func 52) #[] #[]] w fun e w' => LnT Q L w g e w' := by
  go_enter Try.func51, Try.ntmps51
  go_wp2_with fail
  refine (c9rnum_any g L 16384 _ h).mono ?_
  rintro e w1 ⟨n, e1, L1, rfl, hr1, hA1, hg1⟩
  have hn := hr1.most
  have hsz1 := hg1.size
  have HR1 : Hid (ResNum L 16384 n e1 L1) := hr1
  clear h hr1
  by_cases z1 : e1 = 0
  case neg =>
    have HB : Hid (LnT Q L w g (.returned (.tuple #[.slice none 0 0, .bool false])) w1) := ⟨_, [], false, L1, rfl, NHd.nil _ _, Nat.zero_le _, hA1, hg1, fun e => (by cases e), fun ms bss T y h0 h1 h2 h3 h4 h5 => by
      obtain ⟨c, r, k1, k2, rfl⟩ := h1
      rw [List.append_assoc] at h2
      exact absurd (HR1.out.at k1 (by rw [h0.1]; exact h3) (by have := h0.1; omega) h2).2.1 z1⟩
    have z1d : (e1 != 0) = true := by simp [z1]
    have z1e : (e1 == 0) = false := by simp [z1]
    clear hA1 hg1 HR1 z1
    go_wp2_with fail
    first | exact HB.out | (go_ret2; exact HB.out)
  subst z1
  have hwx : IntKind.i64.wrap (n : Int) = n := by simp [IntKind.wrap, IntKind.signed, IntKind.bits]; omega
  have HT := (show Hid _ from x12tn_any g L1 n w1 hA1 hn)
  clear hA1
  go_wp2_with fail
  refine Calls.mono HT.out ?_
  rintro e w2 ⟨v, ns, ok, R, rfl, k1, k3, k6, k7, k8, k9⟩
  have HE : Hid (LnT Q L w g (.returned (.tuple #[v, .bool ok])) w2) := ⟨v, ns, ok, R, rfl, k1.base hsz1, by omega, k6, grown_then hg1 k7, fun e => by
    obtain ⟨c0, f1, f2⟩ := HR1.out.sound rfl
    obtain ⟨f3, bss, y, f0, f4, f5⟩ := k8 e
    exact ⟨bss, c0 ++ y, f0, ⟨c0, y, by rw [f0.1, f3]; exact f1, f4, rfl⟩, by rw [f2, f5, List.append_assoc]⟩, fun ms bss T y h0 h1 h2 h3 h4 h5 => by
    obtain ⟨c0, r, q1, q2, rfl⟩ := h1
    rw [List.append_assoc] at h2
    obtain ⟨p1, -, p3⟩ := HR1.out.at q1 (by rw [h0.1]; exact h3) (by have := h0.1; omega) h2
    exact k9 ms bss T r h0 q2 p3 (by rw [← h0.1]; exact p1.symm) h4 h5⟩
  obtain ⟨oa, oc, rfl, -, -⟩ := k1.row
  clear HT HR1 k1 k3 k6 k7 k8 k9 hg1
  go_wp2
  go_ret2
  exact HE.out
end Go.Proofs.Ytnbdbahfekneoab

namespace Go.Proofs.Ytnbdbahfekneoab
open Go.RowKit

theorem CRdQ.np {Q : Nat → Prop} {w : World} {g : Nat} {L : List Int} (h : CRdQ Q w g L) : ¬ Plain w g := by
  obtain ⟨a, l, c, _, h1, _⟩ := h
  exact not_plain h1 (by decide) (by decide) (by decide)
theorem MsgAt.head {w : World} {g : Nat} {k a b c : Int} {pi pr pn : Option Addr} {li ci lr cr ln cn : Nat} (h : MsgAt w g k a b c pi li ci pr lr cr pn ln cn) : Head w g := by
  refine ⟨_, _, h, fun j x => ?_⟩
  match j with
  | 0 => exact ⟨by simp, by simp⟩
  | 1 => exact ⟨by simp, by simp⟩
  | 2 => exact ⟨by simp, by simp⟩
  | 3 => exact ⟨by simp, by simp⟩
  | 4 => exact ⟨by simp, by simp⟩
  | 5 => exact ⟨by simp, by simp⟩
  | 6 => exact ⟨by simp, by simp⟩
  | j + 7 => exact ⟨by simp, by simp⟩
theorem Lsts.four {w : World} {a : Option Addr} {l c : Nat} {n0 n1 n2 n3 : Int} (h : Lsts w a l c [n0, n1, n2, n3]) : l = 4 ∧ 4 ≤ c ∧ c ≤ 9223372036854775807 ∧ ∃ b off, a = some ⟨b, off, none⟩ ∧ w.cell? ⟨b, off, none⟩ = some (.int .i64 n0) ∧ w.cell? ⟨b, off + 1, none⟩ = some (.int .i64 n1) ∧ w.cell? ⟨b, off + 2, none⟩ = some (.int .i64 n2) ∧ w.cell? ⟨b, off + 3, none⟩ = some (.int .i64 n3) := by
  have hl := h.hlen
  have hc := h.hcap
  have hm := h.hmax
  unfold maxLen at hm
  simp at hl
  obtain ⟨b, off, e, k⟩ := h.cells (by omega)
  exact ⟨hl.symm, by omega, by omega, b, off, e, by simpa using k 0 (by omega), by simpa using k 1 (by omega), by simpa using k 2 (by omega), by simpa using k 3 (by omega)⟩
theorem put7_far {w : World} {G q : Nat} {k a b c : Int} {pi pr pn : Option Addr} {li ci lr cr ln cn : Nat} (h : MsgAt w q k a b c pi li ci pr lr cr pn ln cn) (hne : q ≠ G) (x0 x1 x2 x3 x4 x5 x6 : Value) :
    (((((((w.setCell ⟨G, 0, none⟩ x0).setCell ⟨G, 1, none⟩ x1).setCell ⟨G, 2, none⟩ x2).setCell ⟨G, 3, none⟩ x3).setCell ⟨G, 4, none⟩ x4).setCell ⟨G, 5, none⟩ x5).setCell ⟨G, 6, none⟩ x6).drew.cell? ⟨q, 0, none⟩ = some (.int .i64 k) ∧ (((((((w.setCell ⟨G, 0, none⟩ x0).setCell ⟨G, 1, none⟩ x1).setCell ⟨G, 2, none⟩ x2).setCell ⟨G, 3, none⟩ x3).setCell ⟨G, 4, none⟩ x4).setCell ⟨G, 5, none⟩ x5).setCell ⟨G, 6, none⟩ x6).drew.cell? ⟨q, 1, none⟩ = some (.int .i64 a) ∧ (((((((w.setCell ⟨G, 0, none⟩ x0).setCell ⟨G, 1, none⟩ x1).setCell ⟨G, 2, none⟩ x2).setCell ⟨G, 3, none⟩ x3).setCell ⟨G, 4, none⟩ x4).setCell ⟨G, 5, none⟩ x5).setCell ⟨G, 6, none⟩ x6).drew.cell? ⟨q, 2, none⟩ = some (.int .i64 b) ∧ (((((((w.setCell ⟨G, 0, none⟩ x0).setCell ⟨G, 1, none⟩ x1).setCell ⟨G, 2, none⟩ x2).setCell ⟨G, 3, none⟩ x3).setCell ⟨G, 4, none⟩ x4).setCell ⟨G, 5, none⟩ x5).setCell ⟨G, 6, none⟩ x6).drew.cell? ⟨q, 3, none⟩ = some (.int .i64 c) ∧ (((((((w.setCell ⟨G, 0, none⟩ x0).setCell ⟨G, 1, none⟩ x1).setCell ⟨G, 2, none⟩ x2).setCell ⟨G, 3, none⟩ x3).setCell ⟨G, 4, none⟩ x4).setCell ⟨G, 5, none⟩ x5).setCell ⟨G, 6, none⟩ x6).drew.cell? ⟨q, 4, none⟩ = some (.slice pi li ci) ∧ (((((((w.setCell ⟨G, 0, none⟩ x0).setCell ⟨G, 1, none⟩ x1).setCell ⟨G, 2, none⟩ x2).setCell ⟨G, 3, none⟩ x3).setCell ⟨G, 4, none⟩ x4).setCell ⟨G, 5, none⟩ x5).setCell ⟨G, 6, none⟩ x6).drew.cell? ⟨q, 5, none⟩ = some (.slice pr lr cr) ∧ (((((((w.setCell ⟨G, 0, none⟩ x0).setCell ⟨G, 1, none⟩ x1).setCell ⟨G, 2, none⟩ x2).setCell ⟨G, 3, none⟩ x3).setCell ⟨G, 4, none⟩ x4).setCell ⟨G, 5, none⟩ x5).setCell ⟨G, 6, none⟩ x6).drew.cell? ⟨q, 6, none⟩ = some (.slice pn ln cn) := by
  have g := put7_grown w G x0 x1 x2 x3 x4 x5 x6
  generalize (((((((w.setCell ⟨G, 0, none⟩ x0).setCell ⟨G, 1, none⟩ x1).setCell ⟨G, 2, none⟩ x2).setCell ⟨G, 3, none⟩ x3).setCell ⟨G, 4, none⟩ x4).setCell ⟨G, 5, none⟩ x5).setCell ⟨G, 6, none⟩ x6) = W at g ⊢
  have hz : MsgAt W.drew q k a b c pi li ci pr lr cr pn ln cn := h.kept (g.block q h.lt (fun e => hne (by simpa using e)))
  exact hz.cells.1
theorem drew4 (W : World) : W.drew.heap = W.heap ∧ W.drew.os = W.os ∧ W.drew.tape = W.tape ∧ W.drew.output = W.output := ⟨rfl, rfl, rfl, rfl⟩
/-- A message is read. -/
def ReT (L : List Int) (w : World) (g : Nat) (e : Ending) (w' : World) : Prop :=
  ∃ k a b c pi li ci pr lr cr pn ln cn ids rows nats ok, e = .returned (.tuple #[.agg #[.int .i64 k, .int .i64 a, .int .i64 b, .int .i64 c, .slice pi li ci, .slice pr lr cr, .slice pn ln cn], .bool ok]) ∧ (LstG w' pi li ci ids ∧ LstG w' pr lr cr rows ∧ NHd w' w.heap.size (.slice pn ln cn) nats) ∧ w.grownBy w' (some g) ∧ (ok = true → IsMsg k a b c ids rows nats L) ∧
    ∀ k' a' b' c' ids' rows' nats', RightM k' a' b' c' ids' rows' nats' → DigsN nats' → IsMsg k' a' b' c' ids' rows' nats' L → ok = true ∧ (k = k' ∧ a = a' ∧ b = b' ∧ c = c') ∧ ids = ids' ∧ rows = rows' ∧ nats = nats'
theorem nat0_back (ns : List Nat) : nat0 (ints ns) = ns := by
  unfold nat0 ints
  rw [List.map_map]
  exact (List.map_congr_left (fun x _ => by simp)).trans (List.map_id _)
theorem list4 {ns : List Nat} (h : ns.length = 4) : ∃ n0 n1 n2 n3, ns = [n0, n1, n2, n3] := by
  match ns, h with
  | [n0, n1, n2, n3], _ => exact ⟨n0, n1, n2, n3, rfl⟩
/-- Its parts make the message. -/
theorem read_sound {n0 n1 n2 n3 : Nat} {ids rows : List Nat} {nats bss : List (List Int)} {L R0 R1 R2 y0 y1 y2 y3 : List Int} (h0 : CodesOf [n0, n1, n2, n3] y0) (e0 : L = y0 ++ R0) (h1 : IsLst ids y1) (e1 : R0 = y1 ++ R1) (h2 : IsLst rows y2) (e2 : R1 = y2 ++ R2) (h3 : NatsB nats bss) (h4 : IsBlobs bss y3) (e3 : R2 = y3 ++ []) : IsMsg n0 n1 n2 n3 (ints ids) (ints rows) nats L := by
  refine ⟨bss, h3, y0, y1, y2, y3, by simpa using h0, by rw [nat0_back]; exact h1, by rw [nat0_back]; exact h2, h4, ?_⟩
  rw [e0, e1, e2, e3]
  simp

set_option maxRecDepth 100000 in
set_option maxHeartbeats 12800000 in
theorem x12read_any {Q : Nat → Prop} (g : Nat) (L : List Int) (w : World) (h : CRdQ Q w g L) : Calls Try.prog 28 #[.pointer (some ⟨g, 0, none⟩)] w fun e w' => ReT L w g e w' := by
  have hgw := h.lt
  have hV := balloc w (.cells #[.int .i64 0, .int .i64 0, .int .i64 0, .int .i64 0, .slice none 0 0, .slice none 0 0, .slice none 0 0] 31)
  have hM := MsgAt.new w 0 0 0 0 none none none 0 0 0 0 0 0
  obtain ⟨V, hVe⟩ : ∃ V, V = w.alloc (.cells #[.int .i64 0, .int .i64 0, .int .i64 0, .int .i64 0, .slice none 0 0, .slice none 0 0, .slice none 0 0] 31) := ⟨_, rfl⟩
  rw [← hVe] at hV hM
  have HVe : Hid (V = w.alloc (.cells #[.int .i64 0, .int .i64 0, .int .i64 0, .int .i64 0, .slice none 0 0, .slice none 0 0, .slice none 0 0] 31)) := hVe
  obtain ⟨G, hG⟩ : ∃ G, G = w.heap.size := ⟨_, rfl⟩
  rw [← hG] at hM
  have HG : Hid (G = w.heap.size) := hG
  have hgG : g < G := by omega
  have hGV : G < V.heap.size := hM.lt
  replace h := h.below hV
  have HT : Hid (Calls Try.prog 48 #[.pointer (some ⟨g, 0, none⟩), .int .i64 4, .func (.func 49) #[] #[]] V fun e w' => ThT Q L V g 4 e w') := x12th_any g L 4 V h (by decide)
  have hnp := h.np
  have hhd := h.head
  clear h hVe hG
  go_enter Try.func28, Try.ntmps28
  go_upto_region 1 with fail
  rw [← HVe.out, ← HG.out]
  go_wp2_with fail
  refine Calls.mono HT.out ?_
  rintro e w1 ⟨a1, l1, c1, ns, ok, R0, rfl, k1, ⟨k2, k3⟩, ⟨k4, k5⟩, k6, k7, k8, k9⟩
  have hM1 := hM.kept (k7.block G hGV (by simp; omega))
  have hgr1 : w.grownBy w1 (some g) := grown_then (grown_of_below hV (some g)) k7
  clear HT
  cases ok with
  | false =>
    obtain ⟨⟨r0, r1, r2, r3, r4, r5, r6⟩, fz⟩ := hM1.cells
    have f0 := fz 0
    have f1 := fz 1
    have f2 := fz 2
    have f3 := fz 3
    have f4 := fz 4
    have f5 := fz 5
    have f6 := fz 6
    have HE : Hid (ReT L w g (.returned (.tuple #[.agg #[.int .i64 0, .int .i64 0, .int .i64 0, .int .i64 0, .slice none 0 0, .slice none 0 0, .slice none 0 0], .bool false])) (((((((w1.setCell ⟨G, 0, none⟩ (.int .i64 0)).setCell ⟨G, 1, none⟩ (.int .i64 0)).setCell ⟨G, 2, none⟩ (.int .i64 0)).setCell ⟨G, 3, none⟩ (.int .i64 0)).setCell ⟨G, 4, none⟩ (.slice none 0 0)).setCell ⟨G, 5, none⟩ (.slice none 0 0)).setCell ⟨G, 6, none⟩ (.slice none 0 0))) := by
      refine ⟨0, 0, 0, 0, none, 0, 0, none, 0, 0, none, 0, 0, [], [], [], false, rfl, ⟨LstG.nil _, LstG.nil _, NHd.nil _ _⟩, ?_, fun e => (by cases e), fun k' a' b' c' ids' rows' nats' h1 h2 h3 => ?_⟩
      · have q := put7_grown w1 G (.int .i64 0) (.int .i64 0) (.int .i64 0) (.int .i64 0) (.slice none 0 0) (.slice none 0 0) (.slice none 0 0)
        exact ⟨q.os.trans hgr1.os, q.tape.trans hgr1.tape, q.output.trans hgr1.output, Nat.le_trans hgr1.size q.size, fun j hj hne => (q.block j (Nat.lt_of_lt_of_le hj hgr1.size) (by have := HG.out; simp; omega)).trans (hgr1.block j hj hne)⟩
      · obtain ⟨bss, y0, y1, y2, y3, -, ⟨m1, m2, m3⟩, -⟩ := msg_parts h1 h2 h3
        cases (k9 _ _ _ m1 m2 rfl m3).1
    clear fz hM1 hgr1 k1 k2 k3 k4 k5 k6 k7 k8 k9 hM hV hnp hhd
    go_wp2_with fail
    exact bodyPost_ret (v := .tuple #[.agg #[.int .i64 0, .int .i64 0, .int .i64 0, .int .i64 0, .slice none 0 0, .slice none 0 0, .slice none 0 0], .bool false]) (by simp [results, Try.results28, go_sem, r0, r1, r2, r3, r4, r5, r6]) rfl HE.out
  | true =>
    obtain ⟨hns, y0, hy0, eL⟩ := k8 rfl
    obtain ⟨n0, n1, n2, n3, rfl⟩ := list4 hns
    have hgV : g < V.heap.size := by omega
    have LG1 : LstG w1 a1 l1 c1 (ints [n0, n1, n2, n3]) := ⟨k1, fun ad e hp => by obtain ⟨-, cur, hc⟩ := k5 ad e hp; exact ⟨cur, _, hc, .inl rfl⟩⟩
    have H0 : Hid ((CodesOf [n0, n1, n2, n3] y0 ∧ L = y0 ++ R0) ∧ (∀ k' a' b' c' ids' rows' nats', RightM k' a' b' c' ids' rows' nats' → DigsN nats' → IsMsg k' a' b' c' ids' rows' nats' L → ∃ bss y1 y2 y3, NatsB nats' bss ∧ IsLst (nat0 ids') y1 ∧ IsLst (nat0 rows') y2 ∧ IsBlobs bss y3 ∧ [n0, n1, n2, n3] = [k'.toNat, a'.toNat, b'.toNat, c'.toNat] ∧ R0 = y1 ++ (y2 ++ y3))) := ⟨⟨hy0, eL⟩, fun k' a' b' c' ids' rows' nats' h1 h2 h3 => by
      obtain ⟨bss, z0, z1, z2, z3, hb, ⟨m1, m2, m3⟩, ⟨m4, -⟩, ⟨m5, -⟩, ⟨m6, -⟩⟩ := msg_parts h1 h2 h3
      obtain ⟨-, q1, q2⟩ := k9 _ _ _ m1 m2 rfl m3
      exact ⟨bss, z1, z2, z3, hb, m4, m5, m6, q1, q2⟩⟩
    have HB4 : Hid (∀ n, n ∈ [n0, n1, n2, n3] → n ≤ 1073741824) := k2
    clear k1 k2 k3 k4 k5 k7 k8 k9 hM hV hnp hhd hy0 eL hns
    have np1 := k6.np
    have HL1 := (show Hid _ from x12ls_any g R0 w1 k6)
    clear k6
    go_wp2_with fail
    refine Calls.mono HL1.out ?_
    rintro e w2 ⟨pi, li, ci, ids, ok1, R1, rfl, k1, ⟨k2, k3⟩, ⟨k4, k5⟩, k6, k7, k8, k9⟩
    have hM2 := hM1.kept (k7.block G hM1.lt (by simp; omega))
    have hgr2 := grown_then hgr1 k7
    have LG1' := LG1.kp (Kp.grown k7 (fun b e => by cases e; exact np1))
    have LI : LstG w2 pi li ci (ints ids) := ⟨k1, fun ad e hp => by obtain ⟨-, cur, hc⟩ := k5 ad e hp; exact ⟨cur, _, hc, .inl rfl⟩⟩
    have H1 : Hid ((ok1 = true → ∃ y, IsLst ids y ∧ R0 = y ++ R1) ∧ (∀ ms T y, IsLst ms y → R0 = y ++ T → ms.length ≤ 16384 → (∀ m, m ∈ ms → m ≤ 1073741824) → ok1 = true ∧ ids = ms ∧ R1 = T)) := ⟨k8, k9⟩
    have np2 := k6.np
    have HL2 := (show Hid _ from x12ls_any g R1 w2 k6)
    clear k1 k2 k3 k4 k5 k6 k7 k8 k9 hM1 hgr1 LG1 np1 HL1
    go_wp2_with fail
    refine Calls.mono HL2.out ?_
    rintro e w3 ⟨pr, lr, cr, rows, ok2, R2, rfl, k1, ⟨k2, k3⟩, ⟨k4, k5⟩, k6, k7, k8, k9⟩
    have hM3 := hM2.kept (k7.block G hM2.lt (by simp; omega))
    have hgr3 := grown_then hgr2 k7
    have kp3 := Kp.grown k7 (fun b e => by cases e; exact np2)
    have LG2 := LG1'.kp kp3
    have LI2 := LI.kp kp3
    have LR : LstG w3 pr lr cr (ints rows) := ⟨k1, fun ad e hp => by obtain ⟨-, cur, hc⟩ := k5 ad e hp; exact ⟨cur, _, hc, .inl rfl⟩⟩
    have H2 : Hid ((ok2 = true → ∃ y, IsLst rows y ∧ R1 = y ++ R2) ∧ (∀ ms T y, IsLst ms y → R1 = y ++ T → ms.length ≤ 16384 → (∀ m, m ∈ ms → m ≤ 1073741824) → ok2 = true ∧ rows = ms ∧ R2 = T)) := ⟨k8, k9⟩
    have np3 := k6.np
    have HL3 := (show Hid _ from x12lnr_any g R2 w3 k6)
    clear k1 k2 k3 k4 k5 k6 k7 k8 k9 hM2 hgr2 LG1' LI np2 kp3 HL2
    go_wp2_with fail
    refine Calls.mono HL3.out ?_
    rintro e w4 ⟨nv, nats, ok3, R3, rfl, k1, k3, k6, k7, k8, k9⟩
    have hM4 := hM3.kept (k7.block G hM3.lt (by simp; omega))
    have hgr4 := grown_then hgr3 k7
    have kp4 := Kp.grown k7 (fun b e => by cases e; exact np3)
    have LG3 := LG2.kp kp4
    have LI3 := LI2.kp kp4
    have LR3 := LR.kp kp4
    have H3 : Hid ((ok3 = true → ∃ bss y, NatsB nats bss ∧ IsBlobs bss y ∧ R2 = y ++ R3) ∧ (∀ ms bss T y, NatsB ms bss → IsBlobs bss y → R2 = y ++ T → ms.length ≤ 16384 → RgtN ms → DigsN ms → ok3 = true ∧ nats = ms ∧ R3 = T)) := ⟨k8, k9⟩
    have hsz3 := hgr3.size
    obtain ⟨pn, cn, rfl, hNR, -⟩ := k1.row
    obtain ⟨ln, hln⟩ : ∃ ln, ln = nats.length := ⟨_, rfl⟩
    rw [← hln] at k1 hNR
    rw [← hln]
    have hnG : ∀ b, (Value.slice pn ln cn).ownBlock = some b → b ≠ G := fun b e => by have := (k1.own b e).2.1; have := hM3.lt; omega
    obtain ⟨hl4, hc4, hm4, b4, o4, rfl, d0, d1, d2, d3⟩ := Lsts.four (n0 := n0) (n1 := n1) (n2 := n2) (n3 := n3) LG3.lsts
    subst hl4
    have hgw4 : w.heap.size ≤ w4.heap.size := hgr4.size
    have HW : Hid (NHd w4 w3.heap.size (.slice pn ln cn) nats ∧ (CRdQ Q w4 g R3 ∧ w.grownBy w4 (some g)) ∧ LstG w4 pi li ci (ints ids) ∧ LstG w4 pr lr cr (ints rows) ∧ MsgAt w4 G 0 0 0 0 none 0 0 none 0 0 none 0 0 ∧ (∀ b, (Value.slice pn ln cn).ownBlock = some b → b ≠ G) ∧ (G = w.heap.size ∧ g < G ∧ w.heap.size ≤ w4.heap.size ∧ w.heap.size ≤ w3.heap.size)) := ⟨k1, ⟨k6, hgr4⟩, LI3, LR3, hM4, hnG, ⟨HG.out, hgG, hgw4, hsz3⟩⟩
    clear k1 k3 k6 k7 k8 k9 hM3 hgr3 LG2 LI2 LR kp4 HL3 np3 LG3 LI3 LR3 hM4 hNR hln hsz3 hnG hgr4
    go_upto_region 8 with fail
    go_cut [12] (fun pv wx => ∃ q, pv = .pointer (some ⟨q, 0, none⟩) ∧ w4.heap.size ≤ q ∧ MsgAt wx q n0 n1 n2 n3 pi li ci pr lr cr pn ln cn ∧ Below w4.heap.size w4 wx)
    case first =>
      have HN : Hid (MsgAt (w4.alloc (.cells #[.int .i64 (n0 : Int), .int .i64 (n1 : Int), .int .i64 (n2 : Int), .int .i64 (n3 : Int), .slice pi li ci, .slice pr lr cr, .slice pn ln cn] 31)) w4.heap.size n0 n1 n2 n3 pi li ci pr lr cr pn ln cn ∧ Below w4.heap.size w4 (w4.alloc (.cells #[.int .i64 (n0 : Int), .int .i64 (n1 : Int), .int .i64 (n2 : Int), .int .i64 (n3 : Int), .slice pi li ci, .slice pr lr cr, .slice pn ln cn] 31))) := ⟨MsgAt.new w4 n0 n1 n2 n3 pi pr pn li ci lr cr ln cn, balloc _ _⟩
      clear HW H0 H1 H2 H3 HB4
      go_region_held3 (fun w' => w'.cell? ⟨b4, o4, none⟩ = some (.int .i64 (n0 : Int)) ∧ w'.cell? ⟨b4, o4 + 1, none⟩ = some (.int .i64 (n1 : Int)) ∧ w'.cell? ⟨b4, o4 + 2, none⟩ = some (.int .i64 (n2 : Int)) ∧ w'.cell? ⟨b4, o4 + 3, none⟩ = some (.int .i64 (n3 : Int))) (first | go_keep) (fail)
      all_goals
        go_wp2_with fail
        go_meet
        case rel => exact ⟨w4.heap.size, rfl, Nat.le_refl _, HN.out.1.kept rfl, ⟨HN.out.2.os, HN.out.2.tape, HN.out.2.output, HN.out.2.size, HN.out.2.block⟩⟩
    case rest =>
      obtain ⟨q, rfl, hq, hMq, hbc⟩ := hcut
      obtain ⟨⟨m0, m1, m2, m3, m4, m5, m6⟩, -⟩ := hMq.cells
      have hMG := HW.out.2.2.2.2.1.kept (hbc.block G HW.out.2.2.2.2.1.lt)
      obtain ⟨⟨r0, r1, r2, r3, r4, r5, r6⟩, fz⟩ := hMG.cells
      have f0 := fz 0
      have f1 := fz 1
      have f2 := fz 2
      have f3 := fz 3
      have f4 := fz 4
      have f5 := fz 5
      have f6 := fz 6
      have hqG : q ≠ G := by have := HW.out.2.2.2.2.1.lt; omega
      have HLf : Hid (∀ wx : World, wx.heap = wc.heap → wx.os = wc.os → wx.tape = wc.tape → wx.output = wc.output → Calls Try.prog 53 #[.pointer (some ⟨g, 0, none⟩)] wx fun e w' => e = .returned (.int .i64 (R3.length : Int)) ∧ wx = w') := fun wx y1 y2 y3 y4 => by
        have hbx : Below wc.heap.size wc wx := ⟨y2, y3, y4, by rw [y1]; exact Nat.le_refl _, fun _ _ => by rw [y1]⟩
        exact (c9left_any g R3 wx ((HW.out.2.1.1.below hbc).below hbx)).mono fun e w' ⟨h1, h2⟩ => ⟨h1, h2⟩
      have HE : Hid (∀ (wz : World) (ok : Bool), wz.heap = (((((((wc.setCell ⟨G, 0, none⟩ (.int .i64 (n0 : Int))).setCell ⟨G, 1, none⟩ (.int .i64 (n1 : Int))).setCell ⟨G, 2, none⟩ (.int .i64 (n2 : Int))).setCell ⟨G, 3, none⟩ (.int .i64 (n3 : Int))).setCell ⟨G, 4, none⟩ (.slice pi li ci)).setCell ⟨G, 5, none⟩ (.slice pr lr cr)).setCell ⟨G, 6, none⟩ (.slice pn ln cn)).heap → wz.os = (((((((wc.setCell ⟨G, 0, none⟩ (.int .i64 (n0 : Int))).setCell ⟨G, 1, none⟩ (.int .i64 (n1 : Int))).setCell ⟨G, 2, none⟩ (.int .i64 (n2 : Int))).setCell ⟨G, 3, none⟩ (.int .i64 (n3 : Int))).setCell ⟨G, 4, none⟩ (.slice pi li ci)).setCell ⟨G, 5, none⟩ (.slice pr lr cr)).setCell ⟨G, 6, none⟩ (.slice pn ln cn)).os → wz.tape = (((((((wc.setCell ⟨G, 0, none⟩ (.int .i64 (n0 : Int))).setCell ⟨G, 1, none⟩ (.int .i64 (n1 : Int))).setCell ⟨G, 2, none⟩ (.int .i64 (n2 : Int))).setCell ⟨G, 3, none⟩ (.int .i64 (n3 : Int))).setCell ⟨G, 4, none⟩ (.slice pi li ci)).setCell ⟨G, 5, none⟩ (.slice pr lr cr)).setCell ⟨G, 6, none⟩ (.slice pn ln cn)).tape → wz.output = (((((((wc.setCell ⟨G, 0, none⟩ (.int .i64 (n0 : Int))).setCell ⟨G, 1, none⟩ (.int .i64 (n1 : Int))).setCell ⟨G, 2, none⟩ (.int .i64 (n2 : Int))).setCell ⟨G, 3, none⟩ (.int .i64 (n3 : Int))).setCell ⟨G, 4, none⟩ (.slice pi li ci)).setCell ⟨G, 5, none⟩ (.slice pr lr cr)).setCell ⟨G, 6, none⟩ (.slice pn ln cn)).output → (ok = true ↔ (ok1 = true ∧ ok2 = true ∧ ok3 = true ∧ R3.length = 0)) → ReT L w g (.returned (.tuple #[.agg #[.int .i64 (n0 : Int), .int .i64 (n1 : Int), .int .i64 (n2 : Int), .int .i64 (n3 : Int), .slice pi li ci, .slice pr lr cr, .slice pn ln cn], .bool ok])) wz) := fun wz ok y1 y2 y3 y4 hok => by
        have gp := put7_grown wc G (.int .i64 (n0 : Int)) (.int .i64 (n1 : Int)) (.int .i64 (n2 : Int)) (.int .i64 (n3 : Int)) (.slice pi li ci) (.slice pr lr cr) (.slice pn ln cn)
        have gz : wc.grownBy wz (some G) := ⟨y2.trans gp.os, y3.trans gp.tape, y4.trans gp.output, by rw [y1]; exact gp.size, fun k hk hne => by rw [y1]; exact gp.block k hk hne⟩
        have kpz := (Kp.below hbc).trans (Kp.grown gz (fun b e => by cases e; exact hMG.plain))
        have nz := (HW.out.1.below hbc).head gz hMG.head HW.out.2.2.2.2.2.1
        refine ⟨n0, n1, n2, n3, pi, li, ci, pr, lr, cr, pn, ln, cn, ints ids, ints rows, nats, ok, rfl, ⟨HW.out.2.2.1.kp kpz, HW.out.2.2.2.1.kp kpz, nz.base HW.out.2.2.2.2.2.2.2.2.2⟩, ?_, fun e => ?_, fun k' a' b' c' ids' rows' nats' h1 h2 h3 => ?_⟩
        · have g4 := HW.out.2.1.2
          have gc := grown_low g4 (hbc.mono g4.size)
          exact ⟨gz.os.trans gc.os, gz.tape.trans gc.tape, gz.output.trans gc.output, Nat.le_trans gc.size gz.size, fun j hj hne => (gz.block j (Nat.lt_of_lt_of_le hj gc.size) (by have := HW.out.2.2.2.2.2.2.1; simp; omega)).trans (gc.block j hj hne)⟩
        · obtain ⟨e1, e2, e3, e4⟩ := hok.1 e
          obtain ⟨z1, p1, p2⟩ := H1.out.1 e1
          obtain ⟨z2, p3, p4⟩ := H2.out.1 e2
          obtain ⟨bss, z3, p5, p6, p7⟩ := H3.out.1 e3
          rw [List.eq_nil_of_length_eq_zero e4] at p7
          exact read_sound H0.out.1.1 H0.out.1.2 p1 p2 p3 p4 p5 p6 p7
        · obtain ⟨bss, z1, z2, z3, hb, m4', m5', m6', q1, q2⟩ := H0.out.2 _ _ _ _ _ _ _ h1 h2 h3
          have p1 := h1.p1
          have p4 := h1.p4
          obtain ⟨x1, x2, x3⟩ := H1.out.2 _ _ _ m4' q2 (by rw [nat0_len]; omega) (nat0_le h1.p6)
          obtain ⟨x4, x5, x6⟩ := H2.out.2 _ _ _ m5' x3 (by rw [nat0_len]; omega) (nat0_le (fun i hi => ⟨(h1.p7 i hi).1, (h1.p7 i hi).2.1⟩))
          obtain ⟨x7, x8, x9⟩ := H3.out.2 nats' bss [] z3 hb m6' (by rw [List.append_nil]; exact x6) (by omega) h1.p8 h2
          simp at q1
          refine ⟨hok.2 ⟨x1, x4, x7, by rw [x9]; rfl⟩, ⟨by omega, by omega, by omega, by omega⟩, ?_, ?_, x8⟩
          · rw [x2, nat0_ints h1.p6]
          · rw [x5, nat0_ints (fun i hi => ⟨(h1.p7 i hi).1, (h1.p7 i hi).2.1⟩)]
      have HKS : Hid ((((((((wc.setCell ⟨G, 0, none⟩ (.int .i64 (n0 : Int))).setCell ⟨G, 1, none⟩ (.int .i64 (n1 : Int))).setCell ⟨G, 2, none⟩ (.int .i64 (n2 : Int))).setCell ⟨G, 3, none⟩ (.int .i64 (n3 : Int))).setCell ⟨G, 4, none⟩ (.slice pi li ci)).setCell ⟨G, 5, none⟩ (.slice pr lr cr)).setCell ⟨G, 6, none⟩ (.slice pn ln cn)).drew.cell? ⟨q, 0, none⟩ = some (.int .i64 (n0 : Int)) ∧ (((((((wc.setCell ⟨G, 0, none⟩ (.int .i64 (n0 : Int))).setCell ⟨G, 1, none⟩ (.int .i64 (n1 : Int))).setCell ⟨G, 2, none⟩ (.int .i64 (n2 : Int))).setCell ⟨G, 3, none⟩ (.int .i64 (n3 : Int))).setCell ⟨G, 4, none⟩ (.slice pi li ci)).setCell ⟨G, 5, none⟩ (.slice pr lr cr)).setCell ⟨G, 6, none⟩ (.slice pn ln cn)).drew.cell? ⟨q, 1, none⟩ = some (.int .i64 (n1 : Int)) ∧ (((((((wc.setCell ⟨G, 0, none⟩ (.int .i64 (n0 : Int))).setCell ⟨G, 1, none⟩ (.int .i64 (n1 : Int))).setCell ⟨G, 2, none⟩ (.int .i64 (n2 : Int))).setCell ⟨G, 3, none⟩ (.int .i64 (n3 : Int))).setCell ⟨G, 4, none⟩ (.slice pi li ci)).setCell ⟨G, 5, none⟩ (.slice pr lr cr)).setCell ⟨G, 6, none⟩ (.slice pn ln cn)).drew.cell? ⟨q, 2, none⟩ = some (.int .i64 (n2 : Int)) ∧ (((((((wc.setCell ⟨G, 0, none⟩ (.int .i64 (n0 : Int))).setCell ⟨G, 1, none⟩ (.int .i64 (n1 : Int))).setCell ⟨G, 2, none⟩ (.int .i64 (n2 : Int))).setCell ⟨G, 3, none⟩ (.int .i64 (n3 : Int))).setCell ⟨G, 4, none⟩ (.slice pi li ci)).setCell ⟨G, 5, none⟩ (.slice pr lr cr)).setCell ⟨G, 6, none⟩ (.slice pn ln cn)).drew.cell? ⟨q, 3, none⟩ = some (.int .i64 (n3 : Int)) ∧ (((((((wc.setCell ⟨G, 0, none⟩ (.int .i64 (n0 : Int))).setCell ⟨G, 1, none⟩ (.int .i64 (n1 : Int))).setCell ⟨G, 2, none⟩ (.int .i64 (n2 : Int))).setCell ⟨G, 3, none⟩ (.int .i64 (n3 : Int))).setCell ⟨G, 4, none⟩ (.slice pi li ci)).setCell ⟨G, 5, none⟩ (.slice pr lr cr)).setCell ⟨G, 6, none⟩ (.slice pn ln cn)).drew.cell? ⟨q, 4, none⟩ = some (.slice pi li ci) ∧ (((((((wc.setCell ⟨G, 0, none⟩ (.int .i64 (n0 : Int))).setCell ⟨G, 1, none⟩ (.int .i64 (n1 : Int))).setCell ⟨G, 2, none⟩ (.int .i64 (n2 : Int))).setCell ⟨G, 3, none⟩ (.int .i64 (n3 : Int))).setCell ⟨G, 4, none⟩ (.slice pi li ci)).setCell ⟨G, 5, none⟩ (.slice pr lr cr)).setCell ⟨G, 6, none⟩ (.slice pn ln cn)).drew.cell? ⟨q, 5, none⟩ = some (.slice pr lr cr) ∧ (((((((wc.setCell ⟨G, 0, none⟩ (.int .i64 (n0 : Int))).setCell ⟨G, 1, none⟩ (.int .i64 (n1 : Int))).setCell ⟨G, 2, none⟩ (.int .i64 (n2 : Int))).setCell ⟨G, 3, none⟩ (.int .i64 (n3 : Int))).setCell ⟨G, 4, none⟩ (.slice pi li ci)).setCell ⟨G, 5, none⟩ (.slice pr lr cr)).setCell ⟨G, 6, none⟩ (.slice pn ln cn)).drew.cell? ⟨q, 6, none⟩ = some (.slice pn ln cn)) := put7_far hMq hqG (.int .i64 (n0 : Int)) (.int .i64 (n1 : Int)) (.int .i64 (n2 : Int)) (.int .i64 (n3 : Int)) (.slice pi li ci) (.slice pr lr cr) (.slice pn ln cn)
      have HEd : Hid (∀ ok : Bool, (ok = true ↔ (ok1 = true ∧ ok2 = true ∧ ok3 = true ∧ R3.length = 0)) → ReT L w g (.returned (.tuple #[.agg #[.int .i64 (n0 : Int), .int .i64 (n1 : Int), .int .i64 (n2 : Int), .int .i64 (n3 : Int), .slice pi li ci, .slice pr lr cr, .slice pn ln cn], .bool ok])) (((((((wc.setCell ⟨G, 0, none⟩ (.int .i64 (n0 : Int))).setCell ⟨G, 1, none⟩ (.int .i64 (n1 : Int))).setCell ⟨G, 2, none⟩ (.int .i64 (n2 : Int))).setCell ⟨G, 3, none⟩ (.int .i64 (n3 : Int))).setCell ⟨G, 4, none⟩ (.slice pi li ci)).setCell ⟨G, 5, none⟩ (.slice pr lr cr)).setCell ⟨G, 6, none⟩ (.slice pn ln cn)).drew) := fun ok hok => HE.out _ ok (drew4 _).1 (drew4 _).2.1 (drew4 _).2.2.1 (drew4 _).2.2.2 hok
      clear HE HW H0 H1 H2 H3 HB4 hMG hMq fz hbc
      cases ok1 with
      | false =>
        clear HLf
        go_wp2_with fail
        refine wp_region_noPanic ?_
        refine wp_region_held_drew (S := (fun w' : World => w'.cell? ⟨q, 0, none⟩ = some (.int .i64 (n0 : Int)) ∧ w'.cell? ⟨q, 1, none⟩ = some (.int .i64 (n1 : Int)) ∧ w'.cell? ⟨q, 2, none⟩ = some (.int .i64 (n2 : Int)) ∧ w'.cell? ⟨q, 3, none⟩ = some (.int .i64 (n3 : Int)) ∧ w'.cell? ⟨q, 4, none⟩ = some (.slice pi li ci) ∧ w'.cell? ⟨q, 5, none⟩ = some (.slice pr lr cr) ∧ w'.cell? ⟨q, 6, none⟩ = some (.slice pn ln cn))) (by kernel_rfl) ⟨m0, m1, m2, m3, m4, m5, m6⟩ (fun hHeld => ?_)
        refine' wpAnyH_take (i := 0) (oi := { dst := some 52, op := Op.load 31 (Operand.tmp 12), type := 31, pos := "read.go:22", after := #[], guard := none }) (v := _) rfl (by kernel_rfl) (by kernel_rfl) (by kernel_rfl) (fun _ _ _ h => h) (Or.inl ⟨by rfl, ?hya0⟩) hHeld ?resta0
        case hya0 =>
          intro w' hSw
          try dsimp only at hSw
          go_simp
          try with_reducible rfl
        try simp only [Act.put, List.setIfInBounds_toArray, List.set_cons_zero, List.set_cons_succ]
        refine' wpAnyH_take (i := 1) (oi := { dst := some 53, op := Op.move (Operand.tmp 7), type := 4, pos := "read.go:22", after := #[], guard := none }) (v := _) rfl (by kernel_rfl) (by kernel_rfl) (by kernel_rfl) (fun _ _ _ h => h) (Or.inl ⟨by rfl, ?hya1⟩) hHeld ?resta1
        case hya1 =>
          intro w' hSw
          try dsimp only at hSw
          go_simp
          try with_reducible rfl
        try simp only [Act.put, List.setIfInBounds_toArray, List.set_cons_zero, List.set_cons_succ]
        refine' wpAnyH_take (i := 2) (oi := { dst := some 54, op := Op.move (Operand.tmp 53), type := 4, pos := "read.go:22", after := #[{ on := 1, ground := Ground.data }], guard := none }) (v := _) rfl (by kernel_rfl) (by kernel_rfl) (by kernel_rfl) (fun _ _ _ h => h) (Or.inl ⟨by rfl, ?hya2⟩) hHeld ?resta2
        case hya2 =>
          intro w' hSw
          try dsimp only at hSw
          go_simp
          try with_reducible rfl
        try simp only [Act.put, List.setIfInBounds_toArray, List.set_cons_zero, List.set_cons_succ]
        refine wpAnyH_take (i := 3) (oi := { dst := some 55, op := Op.move (Operand.tmp 9), type := 4, pos := "read.go:22", after := #[{ on := 2, ground := Ground.guard }], guard := some (2, true) }) (v := undef) rfl (by kernel_rfl) (by kernel_rfl) (by kernel_rfl) (fun _ _ _ h => h) (Or.inr ⟨by rfl, rfl⟩) hHeld ?_
        try simp only [Act.put, List.setIfInBounds_toArray, List.set_cons_zero, List.set_cons_succ]
        refine' wpAnyH_take (i := 4) (oi := { dst := some 56, op := Op.pick (Operand.tmp 54) (Operand.tmp 55) (Operand.const (Value.bool false)), type := 4, pos := "read.go:22", after := #[{ on := 2, ground := Ground.data }, { on := 3, ground := Ground.data }], guard := none }) (v := _) rfl (by kernel_rfl) (by kernel_rfl) (by kernel_rfl) (fun _ _ _ h => h) (Or.inl ⟨by rfl, ?hya4⟩) hHeld ?resta4
        case hya4 =>
          intro w' hSw
          try dsimp only at hSw
          go_simp
          try with_reducible rfl
        try simp only [Act.put, List.setIfInBounds_toArray, List.set_cons_zero, List.set_cons_succ]
        refine' wpAnyH_take (i := 5) (oi := { dst := some 57, op := Op.move (Operand.tmp 56), type := 4, pos := "read.go:22", after := #[{ on := 4, ground := Ground.data }, { on := 2, ground := Ground.chain }], guard := none }) (v := _) rfl (by kernel_rfl) (by kernel_rfl) (by kernel_rfl) (fun _ _ _ h => h) (Or.inl ⟨by rfl, ?hya5⟩) hHeld ?resta5
        case hya5 =>
          intro w' hSw
          try dsimp only at hSw
          go_simp
          try with_reducible rfl
        try simp only [Act.put, List.setIfInBounds_toArray, List.set_cons_zero, List.set_cons_succ]
        refine wpAnyH_take (i := 6) (oi := { dst := some 58, op := Op.move (Operand.tmp 11), type := 4, pos := "read.go:22", after := #[{ on := 5, ground := Ground.guard }], guard := some (5, true) }) (v := undef) rfl (by kernel_rfl) (by kernel_rfl) (by kernel_rfl) (fun _ _ _ h => h) (Or.inr ⟨by rfl, rfl⟩) hHeld ?_
        try simp only [Act.put, List.setIfInBounds_toArray, List.set_cons_zero, List.set_cons_succ]
        refine' wpAnyH_take (i := 7) (oi := { dst := some 59, op := Op.pick (Operand.tmp 57) (Operand.tmp 58) (Operand.const (Value.bool false)), type := 4, pos := "read.go:22", after := #[{ on := 5, ground := Ground.data }, { on := 6, ground := Ground.data }], guard := none }) (v := _) rfl (by kernel_rfl) (by kernel_rfl) (by kernel_rfl) (fun _ _ _ h => h) (Or.inl ⟨by rfl, ?hya7⟩) hHeld ?resta7
        case hya7 =>
          intro w' hSw
          try dsimp only at hSw
          go_simp
          try with_reducible rfl
        try simp only [Act.put, List.setIfInBounds_toArray, List.set_cons_zero, List.set_cons_succ]
        refine' wpAnyH_take (i := 8) (oi := { dst := some 60, op := Op.move (Operand.tmp 59), type := 4, pos := "read.go:22", after := #[{ on := 7, ground := Ground.data }, { on := 5, ground := Ground.chain }], guard := none }) (v := _) rfl (by kernel_rfl) (by kernel_rfl) (by kernel_rfl) (fun _ _ _ h => h) (Or.inl ⟨by rfl, ?hya8⟩) hHeld ?resta8
        case hya8 =>
          intro w' hSw
          try dsimp only at hSw
          go_simp
          try with_reducible rfl
        try simp only [Act.put, List.setIfInBounds_toArray, List.set_cons_zero, List.set_cons_succ]
        refine wpAnyH_take (i := 9) (oi := { dst := some 61, op := Op.move (Operand.tmp 0), type := 70, pos := "read.go:22", after := #[{ on := 8, ground := Ground.guard }], guard := some (8, true) }) (v := undef) rfl (by kernel_rfl) (by kernel_rfl) (by kernel_rfl) (fun _ _ _ h => h) (Or.inr ⟨by rfl, rfl⟩) hHeld ?_
        try simp only [Act.put, List.setIfInBounds_toArray, List.set_cons_zero, List.set_cons_succ]
        refine wpAnyH_take (i := 10) (oi := { dst := some 62, op := Op.call { callee := Callee.value (Operand.func 53), args := #[Operand.tmp 61], argTypes := #[70] }, type := 3, pos := "read.go:22", after := #[{ on := 9, ground := Ground.data }, { on := 8, ground := Ground.chain }, { on := 8, ground := Ground.guard }], guard := some (8, true) }) (v := undef) rfl (by kernel_rfl) (by kernel_rfl) (by kernel_rfl) (fun _ _ _ h => h) (Or.inr ⟨by rfl, rfl⟩) hHeld ?_
        try simp only [Act.put, List.setIfInBounds_toArray, List.set_cons_zero, List.set_cons_succ]
        refine wpAnyH_take (i := 11) (oi := { dst := some 63, op := Op.binOp BinOp.eql 3 (Operand.tmp 62) (Operand.const (Value.int IntKind.i64 0)) 3, type := 4, pos := "read.go:22", after := #[{ on := 10, ground := Ground.data }, { on := 8, ground := Ground.guard }, { on := 13, ground := Ground.gcOnly Departure.lateStores }], guard := some (8, true) }) (v := undef) rfl (by kernel_rfl) (by kernel_rfl) (by kernel_rfl) (fun _ _ _ h => h) (Or.inr ⟨by rfl, rfl⟩) hHeld ?_
        try simp only [Act.put, List.setIfInBounds_toArray, List.set_cons_zero, List.set_cons_succ]
        refine' wpAnyH_take (i := 12) (oi := { dst := some 64, op := Op.pick (Operand.tmp 60) (Operand.tmp 63) (Operand.const (Value.bool false)), type := 4, pos := "read.go:22", after := #[{ on := 8, ground := Ground.data }, { on := 11, ground := Ground.data }, { on := 13, ground := Ground.gcOnly Departure.lateStores }], guard := none }) (v := _) rfl (by kernel_rfl) (by kernel_rfl) (by kernel_rfl) (fun _ _ _ h => h) (Or.inl ⟨by rfl, ?hya12⟩) hHeld ?resta12
        case hya12 =>
          intro w' hSw
          try dsimp only at hSw
          go_simp
          try with_reducible rfl
        try simp only [Act.put, List.setIfInBounds_toArray, List.set_cons_zero, List.set_cons_succ]
        refine wpAnyH_ready (rs := [13]) (by kernel_rfl) (by simp) ?_
        refine AllReadyH.cons (o := { dst := none, op := Op.store 31 (Operand.tmp 2) (Operand.tmp 52), type := 0, pos := "read.go:22", after := #[{ on := 0, ground := Ground.data }, { on := 10, ground := Ground.chain }, { on := 0, ground := Ground.phase }, { on := 1, ground := Ground.textOnly Departure.lateStores }, { on := 2, ground := Ground.textOnly Departure.lateStores }, { on := 3, ground := Ground.textOnly Departure.lateStores }, { on := 4, ground := Ground.textOnly Departure.lateStores }, { on := 5, ground := Ground.textOnly Departure.lateStores }, { on := 6, ground := Ground.textOnly Departure.lateStores }, { on := 7, ground := Ground.textOnly Departure.lateStores }, { on := 8, ground := Ground.textOnly Departure.lateStores }, { on := 9, ground := Ground.textOnly Departure.lateStores }, { on := 10, ground := Ground.textOnly Departure.lateStoresUnsure }, { on := 11, ground := Ground.textOnly Departure.lateStores }, { on := 12, ground := Ground.textOnly Departure.lateStores }], guard := none }) rfl (fun K13 hK13 => ?_) AllReadyH.nil
        go_simp
        refine hK13.out _ _ HKS.out (fun hHeld2 => ?_)
        clear hK13 K13
        try simp only [Act.put, List.setIfInBounds_toArray, List.set_cons_zero, List.set_cons_succ]
        refine' wpAnyH_take (i := 14) (oi := { dst := some 3, op := Op.assign (Operand.tmp 64), type := 4, pos := "read.go:22", after := #[{ on := 12, ground := Ground.data }, { on := 13, ground := Ground.chain }, { on := 0, ground := Ground.phase }, { on := 1, ground := Ground.phase }, { on := 2, ground := Ground.phase }, { on := 3, ground := Ground.phase }, { on := 4, ground := Ground.phase }, { on := 5, ground := Ground.phase }, { on := 6, ground := Ground.phase }, { on := 7, ground := Ground.phase }, { on := 8, ground := Ground.phase }, { on := 9, ground := Ground.phase }, { on := 10, ground := Ground.phase }, { on := 11, ground := Ground.phase }, { on := 12, ground := Ground.phase }, { on := 13, ground := Ground.phase }], guard := none }) (v := _) rfl (by kernel_rfl) (by kernel_rfl) (by kernel_rfl) (fun _ _ _ h => h) (Or.inl ⟨by rfl, ?hya14⟩) hHeld2 ?resta14
        case hya14 =>
          intro w' hSw
          try dsimp only at hSw
          go_simp
          try with_reducible rfl
        try simp only [Act.put, List.setIfInBounds_toArray, List.set_cons_zero, List.set_cons_succ]
        refine wpAnyH_done (by kernel_rfl) ?_ _
        refine NoPanic.normal ?_
        all_goals
          go_wp2_with fail
          refine bodyPost_ret (v := .tuple #[.agg #[.int .i64 (n0 : Int), .int .i64 (n1 : Int), .int .i64 (n2 : Int), .int .i64 (n3 : Int), .slice pi li ci, .slice pr lr cr, .slice pn ln cn], .bool false]) (by simp [results, Try.results28, go_sem, r0, r1, r2, r3, r4, r5, r6]) rfl ?_
          exact HEd.out _ ⟨fun e => (by cases e), fun e => (by have := e.1; cases this)⟩
      | true =>
        cases ok2 with
        | false =>
          clear HLf
          go_wp2_with fail
          refine wp_region_noPanic ?_
          refine wp_region_held_drew (S := (fun w' : World => w'.cell? ⟨q, 0, none⟩ = some (.int .i64 (n0 : Int)) ∧ w'.cell? ⟨q, 1, none⟩ = some (.int .i64 (n1 : Int)) ∧ w'.cell? ⟨q, 2, none⟩ = some (.int .i64 (n2 : Int)) ∧ w'.cell? ⟨q, 3, none⟩ = some (.int .i64 (n3 : Int)) ∧ w'.cell? ⟨q, 4, none⟩ = some (.slice pi li ci) ∧ w'.cell? ⟨q, 5, none⟩ = some (.slice pr lr cr) ∧ w'.cell? ⟨q, 6, none⟩ = some (.slice pn ln cn))) (by kernel_rfl) ⟨m0, m1, m2, m3, m4, m5, m6⟩ (fun hHeld => ?_)
          refine' wpAnyH_take (i := 0) (oi := { dst := some 52, op := Op.load 31 (Operand.tmp 12), type := 31, pos := "read.go:22", after := #[], guard := none }) (v := _) rfl (by kernel_rfl) (by kernel_rfl) (by kernel_rfl) (fun _ _ _ h => h) (Or.inl ⟨by rfl, ?hyb0⟩) hHeld ?restb0
          case hyb0 =>
            intro w' hSw
            try dsimp only at hSw
            go_simp
            try with_reducible rfl
          try simp only [Act.put, List.setIfInBounds_toArray, List.set_cons_zero, List.set_cons_succ]
          refine' wpAnyH_take (i := 1) (oi := { dst := some 53, op := Op.move (Operand.tmp 7), type := 4, pos := "read.go:22", after := #[], guard := none }) (v := _) rfl (by kernel_rfl) (by kernel_rfl) (by kernel_rfl) (fun _ _ _ h => h) (Or.inl ⟨by rfl, ?hyb1⟩) hHeld ?restb1
          case hyb1 =>
            intro w' hSw
            try dsimp only at hSw
            go_simp
            try with_reducible rfl
          try simp only [Act.put, List.setIfInBounds_toArray, List.set_cons_zero, List.set_cons_succ]
          refine' wpAnyH_take (i := 2) (oi := { dst := some 54, op := Op.move (Operand.tmp 53), type := 4, pos := "read.go:22", after := #[{ on := 1, ground := Ground.data }], guard := none }) (v := _) rfl (by kernel_rfl) (by kernel_rfl) (by kernel_rfl) (fun _ _ _ h => h) (Or.inl ⟨by rfl, ?hyb2⟩) hHeld ?restb2
          case hyb2 =>
            intro w' hSw
            try dsimp only at hSw
            go_simp
            try with_reducible rfl
          try simp only [Act.put, List.setIfInBounds_toArray, List.set_cons_zero, List.set_cons_succ]
          refine' wpAnyH_take (i := 3) (oi := { dst := some 55, op := Op.move (Operand.tmp 9), type := 4, pos := "read.go:22", after := #[{ on := 2, ground := Ground.guard }], guard := some (2, true) }) (v := _) rfl (by kernel_rfl) (by kernel_rfl) (by kernel_rfl) (fun _ _ _ h => h) (Or.inl ⟨by rfl, ?hyb3⟩) hHeld ?restb3
          case hyb3 =>
            intro w' hSw
            try dsimp only at hSw
            go_simp
            try with_reducible rfl
          try simp only [Act.put, List.setIfInBounds_toArray, List.set_cons_zero, List.set_cons_succ]
          refine' wpAnyH_take (i := 4) (oi := { dst := some 56, op := Op.pick (Operand.tmp 54) (Operand.tmp 55) (Operand.const (Value.bool false)), type := 4, pos := "read.go:22", after := #[{ on := 2, ground := Ground.data }, { on := 3, ground := Ground.data }], guard := none }) (v := _) rfl (by kernel_rfl) (by kernel_rfl) (by kernel_rfl) (fun _ _ _ h => h) (Or.inl ⟨by rfl, ?hyb4⟩) hHeld ?restb4
          case hyb4 =>
            intro w' hSw
            try dsimp only at hSw
            go_simp
            try with_reducible rfl
          try simp only [Act.put, List.setIfInBounds_toArray, List.set_cons_zero, List.set_cons_succ]
          refine' wpAnyH_take (i := 5) (oi := { dst := some 57, op := Op.move (Operand.tmp 56), type := 4, pos := "read.go:22", after := #[{ on := 4, ground := Ground.data }, { on := 2, ground := Ground.chain }], guard := none }) (v := _) rfl (by kernel_rfl) (by kernel_rfl) (by kernel_rfl) (fun _ _ _ h => h) (Or.inl ⟨by rfl, ?hyb5⟩) hHeld ?restb5
          case hyb5 =>
            intro w' hSw
            try dsimp only at hSw
            go_simp
            try with_reducible rfl
          try simp only [Act.put, List.setIfInBounds_toArray, List.set_cons_zero, List.set_cons_succ]
          refine wpAnyH_take (i := 6) (oi := { dst := some 58, op := Op.move (Operand.tmp 11), type := 4, pos := "read.go:22", after := #[{ on := 5, ground := Ground.guard }], guard := some (5, true) }) (v := undef) rfl (by kernel_rfl) (by kernel_rfl) (by kernel_rfl) (fun _ _ _ h => h) (Or.inr ⟨by rfl, rfl⟩) hHeld ?_
          try simp only [Act.put, List.setIfInBounds_toArray, List.set_cons_zero, List.set_cons_succ]
          refine' wpAnyH_take (i := 7) (oi := { dst := some 59, op := Op.pick (Operand.tmp 57) (Operand.tmp 58) (Operand.const (Value.bool false)), type := 4, pos := "read.go:22", after := #[{ on := 5, ground := Ground.data }, { on := 6, ground := Ground.data }], guard := none }) (v := _) rfl (by kernel_rfl) (by kernel_rfl) (by kernel_rfl) (fun _ _ _ h => h) (Or.inl ⟨by rfl, ?hyb7⟩) hHeld ?restb7
          case hyb7 =>
            intro w' hSw
            try dsimp only at hSw
            go_simp
            try with_reducible rfl
          try simp only [Act.put, List.setIfInBounds_toArray, List.set_cons_zero, List.set_cons_succ]
          refine' wpAnyH_take (i := 8) (oi := { dst := some 60, op := Op.move (Operand.tmp 59), type := 4, pos := "read.go:22", after := #[{ on := 7, ground := Ground.data }, { on := 5, ground := Ground.chain }], guard := none }) (v := _) rfl (by kernel_rfl) (by kernel_rfl) (by kernel_rfl) (fun _ _ _ h => h) (Or.inl ⟨by rfl, ?hyb8⟩) hHeld ?restb8
          case hyb8 =>
            intro w' hSw
            try dsimp only at hSw
            go_simp
            try with_reducible rfl
          try simp only [Act.put, List.setIfInBounds_toArray, List.set_cons_zero, List.set_cons_succ]
          refine wpAnyH_take (i := 9) (oi := { dst := some 61, op := Op.move (Operand.tmp 0), type := 70, pos := "read.go:22", after := #[{ on := 8, ground := Ground.guard }], guard := some (8, true) }) (v := undef) rfl (by kernel_rfl) (by kernel_rfl) (by kernel_rfl) (fun _ _ _ h => h) (Or.inr ⟨by rfl, rfl⟩) hHeld ?_
          try simp only [Act.put, List.setIfInBounds_toArray, List.set_cons_zero, List.set_cons_succ]
          refine wpAnyH_take (i := 10) (oi := { dst := some 62, op := Op.call { callee := Callee.value (Operand.func 53), args := #[Operand.tmp 61], argTypes := #[70] }, type := 3, pos := "read.go:22", after := #[{ on := 9, ground := Ground.data }, { on := 8, ground := Ground.chain }, { on := 8, ground := Ground.guard }], guard := some (8, true) }) (v := undef) rfl (by kernel_rfl) (by kernel_rfl) (by kernel_rfl) (fun _ _ _ h => h) (Or.inr ⟨by rfl, rfl⟩) hHeld ?_
          try simp only [Act.put, List.setIfInBounds_toArray, List.set_cons_zero, List.set_cons_succ]
          refine wpAnyH_take (i := 11) (oi := { dst := some 63, op := Op.binOp BinOp.eql 3 (Operand.tmp 62) (Operand.const (Value.int IntKind.i64 0)) 3, type := 4, pos := "read.go:22", after := #[{ on := 10, ground := Ground.data }, { on := 8, ground := Ground.guard }, { on := 13, ground := Ground.gcOnly Departure.lateStores }], guard := some (8, true) }) (v := undef) rfl (by kernel_rfl) (by kernel_rfl) (by kernel_rfl) (fun _ _ _ h => h) (Or.inr ⟨by rfl, rfl⟩) hHeld ?_
          try simp only [Act.put, List.setIfInBounds_toArray, List.set_cons_zero, List.set_cons_succ]
          refine' wpAnyH_take (i := 12) (oi := { dst := some 64, op := Op.pick (Operand.tmp 60) (Operand.tmp 63) (Operand.const (Value.bool false)), type := 4, pos := "read.go:22", after := #[{ on := 8, ground := Ground.data }, { on := 11, ground := Ground.data }, { on := 13, ground := Ground.gcOnly Departure.lateStores }], guard := none }) (v := _) rfl (by kernel_rfl) (by kernel_rfl) (by kernel_rfl) (fun _ _ _ h => h) (Or.inl ⟨by rfl, ?hyb12⟩) hHeld ?restb12
          case hyb12 =>
            intro w' hSw
            try dsimp only at hSw
            go_simp
            try with_reducible rfl
          try simp only [Act.put, List.setIfInBounds_toArray, List.set_cons_zero, List.set_cons_succ]
          refine wpAnyH_ready (rs := [13]) (by kernel_rfl) (by simp) ?_
          refine AllReadyH.cons (o := { dst := none, op := Op.store 31 (Operand.tmp 2) (Operand.tmp 52), type := 0, pos := "read.go:22", after := #[{ on := 0, ground := Ground.data }, { on := 10, ground := Ground.chain }, { on := 0, ground := Ground.phase }, { on := 1, ground := Ground.textOnly Departure.lateStores }, { on := 2, ground := Ground.textOnly Departure.lateStores }, { on := 3, ground := Ground.textOnly Departure.lateStores }, { on := 4, ground := Ground.textOnly Departure.lateStores }, { on := 5, ground := Ground.textOnly Departure.lateStores }, { on := 6, ground := Ground.textOnly Departure.lateStores }, { on := 7, ground := Ground.textOnly Departure.lateStores }, { on := 8, ground := Ground.textOnly Departure.lateStores }, { on := 9, ground := Ground.textOnly Departure.lateStores }, { on := 10, ground := Ground.textOnly Departure.lateStoresUnsure }, { on := 11, ground := Ground.textOnly Departure.lateStores }, { on := 12, ground := Ground.textOnly Departure.lateStores }], guard := none }) rfl (fun K13 hK13 => ?_) AllReadyH.nil
          go_simp
          refine hK13.out _ _ HKS.out (fun hHeld2 => ?_)
          clear hK13 K13
          try simp only [Act.put, List.setIfInBounds_toArray, List.set_cons_zero, List.set_cons_succ]
          refine' wpAnyH_take (i := 14) (oi := { dst := some 3, op := Op.assign (Operand.tmp 64), type := 4, pos := "read.go:22", after := #[{ on := 12, ground := Ground.data }, { on := 13, ground := Ground.chain }, { on := 0, ground := Ground.phase }, { on := 1, ground := Ground.phase }, { on := 2, ground := Ground.phase }, { on := 3, ground := Ground.phase }, { on := 4, ground := Ground.phase }, { on := 5, ground := Ground.phase }, { on := 6, ground := Ground.phase }, { on := 7, ground := Ground.phase }, { on := 8, ground := Ground.phase }, { on := 9, ground := Ground.phase }, { on := 10, ground := Ground.phase }, { on := 11, ground := Ground.phase }, { on := 12, ground := Ground.phase }, { on := 13, ground := Ground.phase }], guard := none }) (v := _) rfl (by kernel_rfl) (by kernel_rfl) (by kernel_rfl) (fun _ _ _ h => h) (Or.inl ⟨by rfl, ?hyb14⟩) hHeld2 ?restb14
          case hyb14 =>
            intro w' hSw
            try dsimp only at hSw
            go_simp
            try with_reducible rfl
          try simp only [Act.put, List.setIfInBounds_toArray, List.set_cons_zero, List.set_cons_succ]
          refine wpAnyH_done (by kernel_rfl) ?_ _
          refine NoPanic.normal ?_
          all_goals
            go_wp2_with fail
            refine bodyPost_ret (v := .tuple #[.agg #[.int .i64 (n0 : Int), .int .i64 (n1 : Int), .int .i64 (n2 : Int), .int .i64 (n3 : Int), .slice pi li ci, .slice pr lr cr, .slice pn ln cn], .bool false]) (by simp [results, Try.results28, go_sem, r0, r1, r2, r3, r4, r5, r6]) rfl ?_
            exact HEd.out _ ⟨fun e => (by cases e), fun e => (by have := e.2.1; cases this)⟩
        | true =>
          cases ok3 with
          | false =>
            clear HLf
            go_wp2_with fail
            refine wp_region_noPanic ?_
            refine wp_region_held_drew (S := (fun w' : World => w'.cell? ⟨q, 0, none⟩ = some (.int .i64 (n0 : Int)) ∧ w'.cell? ⟨q, 1, none⟩ = some (.int .i64 (n1 : Int)) ∧ w'.cell? ⟨q, 2, none⟩ = some (.int .i64 (n2 : Int)) ∧ w'.cell? ⟨q, 3, none⟩ = some (.int .i64 (n3 : Int)) ∧ w'.cell? ⟨q, 4, none⟩ = some (.slice pi li ci) ∧ w'.cell? ⟨q, 5, none⟩ = some (.slice pr lr cr) ∧ w'.cell? ⟨q, 6, none⟩ = some (.slice pn ln cn))) (by kernel_rfl) ⟨m0, m1, m2, m3, m4, m5, m6⟩ (fun hHeld => ?_)
            refine' wpAnyH_take (i := 0) (oi := { dst := some 52, op := Op.load 31 (Operand.tmp 12), type := 31, pos := "read.go:22", after := #[], guard := none }) (v := _) rfl (by kernel_rfl) (by kernel_rfl) (by kernel_rfl) (fun _ _ _ h => h) (Or.inl ⟨by rfl, ?hyc0⟩) hHeld ?restc0
            case hyc0 =>
              intro w' hSw
              try dsimp only at hSw
              go_simp
              try with_reducible rfl
            try simp only [Act.put, List.setIfInBounds_toArray, List.set_cons_zero, List.set_cons_succ]
            refine' wpAnyH_take (i := 1) (oi := { dst := some 53, op := Op.move (Operand.tmp 7), type := 4, pos := "read.go:22", after := #[], guard := none }) (v := _) rfl (by kernel_rfl) (by kernel_rfl) (by kernel_rfl) (fun _ _ _ h => h) (Or.inl ⟨by rfl, ?hyc1⟩) hHeld ?restc1
            case hyc1 =>
              intro w' hSw
              try dsimp only at hSw
              go_simp
              try with_reducible rfl
            try simp only [Act.put, List.setIfInBounds_toArray, List.set_cons_zero, List.set_cons_succ]
            refine' wpAnyH_take (i := 2) (oi := { dst := some 54, op := Op.move (Operand.tmp 53), type := 4, pos := "read.go:22", after := #[{ on := 1, ground := Ground.data }], guard := none }) (v := _) rfl (by kernel_rfl) (by kernel_rfl) (by kernel_rfl) (fun _ _ _ h => h) (Or.inl ⟨by rfl, ?hyc2⟩) hHeld ?restc2
            case hyc2 =>
              intro w' hSw
              try dsimp only at hSw
              go_simp
              try with_reducible rfl
            try simp only [Act.put, List.setIfInBounds_toArray, List.set_cons_zero, List.set_cons_succ]
            refine' wpAnyH_take (i := 3) (oi := { dst := some 55, op := Op.move (Operand.tmp 9), type := 4, pos := "read.go:22", after := #[{ on := 2, ground := Ground.guard }], guard := some (2, true) }) (v := _) rfl (by kernel_rfl) (by kernel_rfl) (by kernel_rfl) (fun _ _ _ h => h) (Or.inl ⟨by rfl, ?hyc3⟩) hHeld ?restc3
            case hyc3 =>
              intro w' hSw
              try dsimp only at hSw
              go_simp
              try with_reducible rfl
            try simp only [Act.put, List.setIfInBounds_toArray, List.set_cons_zero, List.set_cons_succ]
            refine' wpAnyH_take (i := 4) (oi := { dst := some 56, op := Op.pick (Operand.tmp 54) (Operand.tmp 55) (Operand.const (Value.bool false)), type := 4, pos := "read.go:22", after := #[{ on := 2, ground := Ground.data }, { on := 3, ground := Ground.data }], guard := none }) (v := _) rfl (by kernel_rfl) (by kernel_rfl) (by kernel_rfl) (fun _ _ _ h => h) (Or.inl ⟨by rfl, ?hyc4⟩) hHeld ?restc4
            case hyc4 =>
              intro w' hSw
              try dsimp only at hSw
              go_simp
              try with_reducible rfl
            try simp only [Act.put, List.setIfInBounds_toArray, List.set_cons_zero, List.set_cons_succ]
            refine' wpAnyH_take (i := 5) (oi := { dst := some 57, op := Op.move (Operand.tmp 56), type := 4, pos := "read.go:22", after := #[{ on := 4, ground := Ground.data }, { on := 2, ground := Ground.chain }], guard := none }) (v := _) rfl (by kernel_rfl) (by kernel_rfl) (by kernel_rfl) (fun _ _ _ h => h) (Or.inl ⟨by rfl, ?hyc5⟩) hHeld ?restc5
            case hyc5 =>
              intro w' hSw
              try dsimp only at hSw
              go_simp
              try with_reducible rfl
            try simp only [Act.put, List.setIfInBounds_toArray, List.set_cons_zero, List.set_cons_succ]
            refine' wpAnyH_take (i := 6) (oi := { dst := some 58, op := Op.move (Operand.tmp 11), type := 4, pos := "read.go:22", after := #[{ on := 5, ground := Ground.guard }], guard := some (5, true) }) (v := _) rfl (by kernel_rfl) (by kernel_rfl) (by kernel_rfl) (fun _ _ _ h => h) (Or.inl ⟨by rfl, ?hyc6⟩) hHeld ?restc6
            case hyc6 =>
              intro w' hSw
              try dsimp only at hSw
              go_simp
              try with_reducible rfl
            try simp only [Act.put, List.setIfInBounds_toArray, List.set_cons_zero, List.set_cons_succ]
            refine' wpAnyH_take (i := 7) (oi := { dst := some 59, op := Op.pick (Operand.tmp 57) (Operand.tmp 58) (Operand.const (Value.bool false)), type := 4, pos := "read.go:22", after := #[{ on := 5, ground := Ground.data }, { on := 6, ground := Ground.data }], guard := none }) (v := _) rfl (by kernel_rfl) (by kernel_rfl) (by kernel_rfl) (fun _ _ _ h => h) (Or.inl ⟨by rfl, ?hyc7⟩) hHeld ?restc7
            case hyc7 =>
              intro w' hSw
              try dsimp only at hSw
              go_simp
              try with_reducible rfl
            try simp only [Act.put, List.setIfInBounds_toArray, List.set_cons_zero, List.set_cons_succ]
            refine' wpAnyH_take (i := 8) (oi := { dst := some 60, op := Op.move (Operand.tmp 59), type := 4, pos := "read.go:22", after := #[{ on := 7, ground := Ground.data }, { on := 5, ground := Ground.chain }], guard := none }) (v := _) rfl (by kernel_rfl) (by kernel_rfl) (by kernel_rfl) (fun _ _ _ h => h) (Or.inl ⟨by rfl, ?hyc8⟩) hHeld ?restc8
            case hyc8 =>
              intro w' hSw
              try dsimp only at hSw
              go_simp
              try with_reducible rfl
            try simp only [Act.put, List.setIfInBounds_toArray, List.set_cons_zero, List.set_cons_succ]
            refine wpAnyH_take (i := 9) (oi := { dst := some 61, op := Op.move (Operand.tmp 0), type := 70, pos := "read.go:22", after := #[{ on := 8, ground := Ground.guard }], guard := some (8, true) }) (v := undef) rfl (by kernel_rfl) (by kernel_rfl) (by kernel_rfl) (fun _ _ _ h => h) (Or.inr ⟨by rfl, rfl⟩) hHeld ?_
            try simp only [Act.put, List.setIfInBounds_toArray, List.set_cons_zero, List.set_cons_succ]
            refine wpAnyH_take (i := 10) (oi := { dst := some 62, op := Op.call { callee := Callee.value (Operand.func 53), args := #[Operand.tmp 61], argTypes := #[70] }, type := 3, pos := "read.go:22", after := #[{ on := 9, ground := Ground.data }, { on := 8, ground := Ground.chain }, { on := 8, ground := Ground.guard }], guard := some (8, true) }) (v := undef) rfl (by kernel_rfl) (by kernel_rfl) (by kernel_rfl) (fun _ _ _ h => h) (Or.inr ⟨by rfl, rfl⟩) hHeld ?_
            try simp only [Act.put, List.setIfInBounds_toArray, List.set_cons_zero, List.set_cons_succ]
            refine wpAnyH_take (i := 11) (oi := { dst := some 63, op := Op.binOp BinOp.eql 3 (Operand.tmp 62) (Operand.const (Value.int IntKind.i64 0)) 3, type := 4, pos := "read.go:22", after := #[{ on := 10, ground := Ground.data }, { on := 8, ground := Ground.guard }, { on := 13, ground := Ground.gcOnly Departure.lateStores }], guard := some (8, true) }) (v := undef) rfl (by kernel_rfl) (by kernel_rfl) (by kernel_rfl) (fun _ _ _ h => h) (Or.inr ⟨by rfl, rfl⟩) hHeld ?_
            try simp only [Act.put, List.setIfInBounds_toArray, List.set_cons_zero, List.set_cons_succ]
            refine' wpAnyH_take (i := 12) (oi := { dst := some 64, op := Op.pick (Operand.tmp 60) (Operand.tmp 63) (Operand.const (Value.bool false)), type := 4, pos := "read.go:22", after := #[{ on := 8, ground := Ground.data }, { on := 11, ground := Ground.data }, { on := 13, ground := Ground.gcOnly Departure.lateStores }], guard := none }) (v := _) rfl (by kernel_rfl) (by kernel_rfl) (by kernel_rfl) (fun _ _ _ h => h) (Or.inl ⟨by rfl, ?hyc12⟩) hHeld ?restc12
            case hyc12 =>
              intro w' hSw
              try dsimp only at hSw
              go_simp
              try with_reducible rfl
            try simp only [Act.put, List.setIfInBounds_toArray, List.set_cons_zero, List.set_cons_succ]
            refine wpAnyH_ready (rs := [13]) (by kernel_rfl) (by simp) ?_
            refine AllReadyH.cons (o := { dst := none, op := Op.store 31 (Operand.tmp 2) (Operand.tmp 52), type := 0, pos := "read.go:22", after := #[{ on := 0, ground := Ground.data }, { on := 10, ground := Ground.chain }, { on := 0, ground := Ground.phase }, { on := 1, ground := Ground.textOnly Departure.lateStores }, { on := 2, ground := Ground.textOnly Departure.lateStores }, { on := 3, ground := Ground.textOnly Departure.lateStores }, { on := 4, ground := Ground.textOnly Departure.lateStores }, { on := 5, ground := Ground.textOnly Departure.lateStores }, { on := 6, ground := Ground.textOnly Departure.lateStores }, { on := 7, ground := Ground.textOnly Departure.lateStores }, { on := 8, ground := Ground.textOnly Departure.lateStores }, { on := 9, ground := Ground.textOnly Departure.lateStores }, { on := 10, ground := Ground.textOnly Departure.lateStoresUnsure }, { on := 11, ground := Ground.textOnly Departure.lateStores }, { on := 12, ground := Ground.textOnly Departure.lateStores }], guard := none }) rfl (fun K13 hK13 => ?_) AllReadyH.nil
            go_simp
            refine hK13.out _ _ HKS.out (fun hHeld2 => ?_)
            clear hK13 K13
            try simp only [Act.put, List.setIfInBounds_toArray, List.set_cons_zero, List.set_cons_succ]
            refine' wpAnyH_take (i := 14) (oi := { dst := some 3, op := Op.assign (Operand.tmp 64), type := 4, pos := "read.go:22", after := #[{ on := 12, ground := Ground.data }, { on := 13, ground := Ground.chain }, { on := 0, ground := Ground.phase }, { on := 1, ground := Ground.phase }, { on := 2, ground := Ground.phase }, { on := 3, ground := Ground.phase }, { on := 4, ground := Ground.phase }, { on := 5, ground := Ground.phase }, { on := 6, ground := Ground.phase }, { on := 7, ground := Ground.phase }, { on := 8, ground := Ground.phase }, { on := 9, ground := Ground.phase }, { on := 10, ground := Ground.phase }, { on := 11, ground := Ground.phase }, { on := 12, ground := Ground.phase }, { on := 13, ground := Ground.phase }], guard := none }) (v := _) rfl (by kernel_rfl) (by kernel_rfl) (by kernel_rfl) (fun _ _ _ h => h) (Or.inl ⟨by rfl, ?hyc14⟩) hHeld2 ?restc14
            case hyc14 =>
              intro w' hSw
              try dsimp only at hSw
              go_simp
              try with_reducible rfl
            try simp only [Act.put, List.setIfInBounds_toArray, List.set_cons_zero, List.set_cons_succ]
            refine wpAnyH_done (by kernel_rfl) ?_ _
            refine NoPanic.normal ?_
            all_goals
              go_wp2_with fail
              refine bodyPost_ret (v := .tuple #[.agg #[.int .i64 (n0 : Int), .int .i64 (n1 : Int), .int .i64 (n2 : Int), .int .i64 (n3 : Int), .slice pi li ci, .slice pr lr cr, .slice pn ln cn], .bool false]) (by simp [results, Try.results28, go_sem, r0, r1, r2, r3, r4, r5, r6]) rfl ?_
              exact HEd.out _ ⟨fun e => (by cases e), fun e => (by have := e.2.2.1; cases this)⟩
          | true =>
            have hLe : ((R3.length : Int) == 0) = decide (R3.length = 0) := by
              by_cases e : R3.length = 0
              · rw [e]; rfl
              · simp [e]
            obtain ⟨lq, hlq⟩ : ∃ lq, lq = decide (R3.length = 0) := ⟨_, rfl⟩
            rw [← hlq] at hLe
            have HQ : Hid (lq = true ↔ R3.length = 0) := by show _ ↔ _; rw [hlq]; exact decide_eq_true_iff
            clear hlq
            go_wp2_with fail
            go_region_held3 (fun w' => w'.cell? ⟨q, 0, none⟩ = some (.int .i64 (n0 : Int)) ∧ w'.cell? ⟨q, 1, none⟩ = some (.int .i64 (n1 : Int)) ∧ w'.cell? ⟨q, 2, none⟩ = some (.int .i64 (n2 : Int)) ∧ w'.cell? ⟨q, 3, none⟩ = some (.int .i64 (n3 : Int)) ∧ w'.cell? ⟨q, 4, none⟩ = some (.slice pi li ci) ∧ w'.cell? ⟨q, 5, none⟩ = some (.slice pr lr cr) ∧ w'.cell? ⟨q, 6, none⟩ = some (.slice pn ln cn)) (first | with_reducible exact HKS.out | go_keep) (first | (go_at_call 53; with_reducible refine Calls.mono (HLf.out _ rfl rfl rfl rfl) ?_; rintro e w6 ⟨rfl, rfl⟩))
            all_goals
              go_wp2_with fail
              refine bodyPost_ret (v := .tuple #[.agg #[.int .i64 (n0 : Int), .int .i64 (n1 : Int), .int .i64 (n2 : Int), .int .i64 (n3 : Int), .slice pi li ci, .slice pr lr cr, .slice pn ln cn], .bool lq]) (by simp [results, Try.results28, go_sem, r0, r1, r2, r3, r4, r5, r6]) rfl ?_
              exact HEd.out _ (by rw [HQ.out]; exact ⟨fun e => ⟨by first | rfl | trivial, by first | rfl | trivial, by first | rfl | trivial, e⟩, fun e => e.2.2.2⟩)
end Go.Proofs.Ytnbdbahfekneoab

namespace Go.Proofs.Ytnbdbahfekneoab
open Go.RowKit

/-- There is no message of these bytes. -/
theorem no_msg {L : List Int} (h : ∀ k a b c ids rows nats, RightM k a b c ids rows nats → DigsN nats → IsMsg k a b c ids rows nats L → ¬ L.length ≤ 1048576) {w w' : World} (hb : Below w.heap.size w w') : MDecT L w (.returned (.tuple #[.agg #[.int .i64 0, .int .i64 0, .int .i64 0, .int .i64 0, .slice none 0 0, .slice none 0 0, .slice none 0 0], .int .i64 16])) w' :=
  ⟨0, 0, 0, 0, none, 0, 0, none, 0, 0, none, 0, 0, [], [], [], 16, rfl, ⟨Lsts.nil _, Lsts.nil _, NRow.nil _⟩, .inr ⟨h, ⟨rfl, rfl, rfl, rfl⟩, ⟨rfl, rfl, rfl⟩, rfl⟩, hb⟩

set_option maxRecDepth 100000 in
set_option maxHeartbeats 12800000 in
theorem x12dec_any (p : Option Addr) (lb cb : Nat) (L : List Int) (w : World) (h : Byts w p lb cb L) (hlen : lb ≤ 140737488355300) : Calls Try.prog 11 #[.slice p lb cb] w fun e w' => MDecT L w e w' := by
  have hV := balloc w (.cells #[.int .i64 0, .int .i64 0, .int .i64 0, .int .i64 0, .slice none 0 0, .slice none 0 0, .slice none 0 0] 31)
  have hM := MsgAt.new w 0 0 0 0 none none none 0 0 0 0 0 0
  obtain ⟨V, hVe⟩ : ∃ V, V = w.alloc (.cells #[.int .i64 0, .int .i64 0, .int .i64 0, .int .i64 0, .slice none 0 0, .slice none 0 0, .slice none 0 0] 31) := ⟨_, rfl⟩
  rw [← hVe] at hV hM
  have HVe : Hid (V = w.alloc (.cells #[.int .i64 0, .int .i64 0, .int .i64 0, .int .i64 0, .slice none 0 0, .slice none 0 0, .slice none 0 0] 31)) := hVe
  obtain ⟨G, hG⟩ : ∃ G, G = w.heap.size := ⟨_, rfl⟩
  rw [← hG] at hM
  have HG : Hid (G = w.heap.size) := hG
  have hGV := hM.lt
  have hLl := h.hlen
  replace h := h.below hV
  have hwG : w.heap.size ≤ G := by omega
  clear hVe hG
  by_cases hbig : 1048576 < lb
  · have hbd : (1048576 : Int) < (lb : Int) := by omega
    obtain ⟨⟨r0, r1, r2, r3, r4, r5, r6⟩, fz⟩ := hM.cells
    have f0 := fz 0
    have f1 := fz 1
    have f2 := fz 2
    have f3 := fz 3
    have f4 := fz 4
    have f5 := fz 5
    have f6 := fz 6
    have HE : Hid (MDecT L w (.returned (.tuple #[.agg #[.int .i64 0, .int .i64 0, .int .i64 0, .int .i64 0, .slice none 0 0, .slice none 0 0, .slice none 0 0], .int .i64 16])) (((((((V.setCell ⟨G, 0, none⟩ (.int .i64 0)).setCell ⟨G, 1, none⟩ (.int .i64 0)).setCell ⟨G, 2, none⟩ (.int .i64 0)).setCell ⟨G, 3, none⟩ (.int .i64 0)).setCell ⟨G, 4, none⟩ (.slice none 0 0)).setCell ⟨G, 5, none⟩ (.slice none 0 0)).setCell ⟨G, 6, none⟩ (.slice none 0 0))) := no_msg (fun k a b c ids rows nats _ _ _ => by omega) (put7_below hV hwG (.int .i64 0) (.int .i64 0) (.int .i64 0) (.int .i64 0) (.slice none 0 0) (.slice none 0 0) (.slice none 0 0))
    clear h hM hV fz hLl hlen
    go_enter Try.func11, Try.ntmps11
    go_upto_region 1 with fail
    rw [← HVe.out, ← HG.out]
    go_wp2_with fail
    exact bodyPost_ret (v := .tuple #[.agg #[.int .i64 0, .int .i64 0, .int .i64 0, .int .i64 0, .slice none 0 0, .slice none 0 0, .slice none 0 0], .int .i64 16]) (by simp [results, Try.results11, go_sem, r0, r1, r2, r3, r4, r5, r6]) rfl HE.out
  have hbd : decide ((1048576 : Int) < (lb : Int)) = false := decide_eq_false (by omega)
  have HN := (show Hid _ from c9new_any p lb cb L V h hlen)
  have HL : Hid (L.length ≤ 1048576) := by show _ ≤ _; omega
  clear h hLl hlen hbig
  go_enter Try.func11, Try.ntmps11
  go_upto_region 1 with fail
  rw [← HVe.out, ← HG.out]
  go_wp2_with fail
  refine Calls.mono HN.out ?_
  rintro e w1 ⟨g, rfl, hg, hA, hb1⟩
  have HR := (show Hid _ from x12read_any g L w1 hA)
  have hM1 := hM.kept (hb1.block G hGV)
  have hGw1 := hM1.lt
  have hB1 := bthen hV hb1
  clear hA hM HN
  go_wp2_with fail
  refine Calls.mono HR.out ?_
  rintro e w2 ⟨k, a, b, c, pi, li, ci, pr, lr, cr, pn, ln, cn, ids, rows, nats, ok, rfl, ⟨hI, hRw, hNh⟩, hgr, hsnd, hcmp⟩
  have hM2 := hM1.kept (hgr.block G hGw1 (by simp; omega))
  have hB2 : Below w.heap.size w w2 := hB1.grown hgr hB1.size (fun j hj => by cases hj; exact Nat.le_trans hV.size hg)
  have hb3 := balloc w2 (.cells #[.int .i64 k, .int .i64 a, .int .i64 b, .int .i64 c, .slice pi li ci, .slice pr lr cr, .slice pn ln cn] 31)
  have hB3 := bthen hB2 hb3
  have hI3 := hI.kp (Kp.below hb3)
  have hR3 := hRw.kp (Kp.below hb3)
  have hN3 := hNh.below hb3
  have hM3 := hM2.kept (hb3.block G hM2.lt)
  have hQ3 := MsgAt.new w2 k a b c pi pr pn li ci lr cr ln cn
  obtain ⟨⟨m0, m1, m2, m3, m4, m5, m6⟩, -⟩ := hQ3.cells
  obtain ⟨⟨r0, r1, r2, r3, r4, r5, r6⟩, fz⟩ := hM3.cells
  have f0 := fz 0
  have f1 := fz 1
  have f2 := fz 2
  have f3 := fz 3
  have f4 := fz 4
  have f5 := fz 5
  have f6 := fz 6
  have HS : Hid ((ok = true → IsMsg k a b c ids rows nats L) ∧ (∀ k' a' b' c' ids' rows' nats', RightM k' a' b' c' ids' rows' nats' → DigsN nats' → IsMsg k' a' b' c' ids' rows' nats' L → ok = true ∧ (k = k' ∧ a = a' ∧ b = b' ∧ c = c') ∧ ids = ids' ∧ rows = rows' ∧ nats = nats')) := ⟨hsnd, hcmp⟩
  obtain ⟨pz, cz, ez, hNR, -⟩ := hN3.row
  obtain ⟨rfl, rfl, rfl⟩ : pn = pz ∧ ln = nats.length ∧ cn = cz := by injection ez with e1 e2 e3; exact ⟨e1, e2, e3⟩
  obtain ⟨ln, hln⟩ : ∃ ln, ln = nats.length := ⟨_, rfl⟩
  rw [← hln] at hN3 hNR hQ3 hB3 hI3 hR3 hM3 m0 m1 m2 m3 m4 m5 m6 r0 r1 r2 r3 r4 r5 r6 f0 f1 f2 f3 f4 f5 f6
  rw [← hln]
  have HRt := (show Hid _ from x12right_any k a b c pi li ci pr lr cr pn ln cn ids rows nats _ ⟨hI3.lsts, hR3.lsts, hNR⟩)
  have HW : Hid ((LstG (w2.alloc (.cells #[.int .i64 k, .int .i64 a, .int .i64 b, .int .i64 c, .slice pi li ci, .slice pr lr cr, .slice pn ln cn] 31)) pi li ci ids ∧ LstG (w2.alloc (.cells #[.int .i64 k, .int .i64 a, .int .i64 b, .int .i64 c, .slice pi li ci, .slice pr lr cr, .slice pn ln cn] 31)) pr lr cr rows ∧ NHd (w2.alloc (.cells #[.int .i64 k, .int .i64 a, .int .i64 b, .int .i64 c, .slice pi li ci, .slice pr lr cr, .slice pn ln cn] 31)) w1.heap.size (.slice pn ln cn) nats) ∧ MsgAt (w2.alloc (.cells #[.int .i64 k, .int .i64 a, .int .i64 b, .int .i64 c, .slice pi li ci, .slice pr lr cr, .slice pn ln cn] 31)) G 0 0 0 0 none 0 0 none 0 0 none 0 0 ∧ MsgAt (w2.alloc (.cells #[.int .i64 k, .int .i64 a, .int .i64 b, .int .i64 c, .slice pi li ci, .slice pr lr cr, .slice pn ln cn] 31)) w2.heap.size k a b c pi li ci pr lr cr pn ln cn ∧ G < w1.heap.size ∧ w.heap.size ≤ G) := ⟨⟨hI3, hR3, hN3⟩, hM3, hQ3, hGw1, hwG⟩
  clear HR hI hRw hNh hgr hsnd hcmp hM2 hB2 hb3 hI3 hR3 hN3 hM3 hQ3 fz hNR ez hln hB1 hb1 hM1 hV hg
  cases ok with
  | false =>
    have HE : Hid (MDecT L w (.returned (.tuple #[.agg #[.int .i64 0, .int .i64 0, .int .i64 0, .int .i64 0, .slice none 0 0, .slice none 0 0, .slice none 0 0], .int .i64 16])) ((((((((w2.alloc (.cells #[.int .i64 k, .int .i64 a, .int .i64 b, .int .i64 c, .slice pi li ci, .slice pr lr cr, .slice pn ln cn] 31)).setCell ⟨G, 0, none⟩ (.int .i64 0)).setCell ⟨G, 1, none⟩ (.int .i64 0)).setCell ⟨G, 2, none⟩ (.int .i64 0)).setCell ⟨G, 3, none⟩ (.int .i64 0)).setCell ⟨G, 4, none⟩ (.slice none 0 0)).setCell ⟨G, 5, none⟩ (.slice none 0 0)).setCell ⟨G, 6, none⟩ (.slice none 0 0))) := no_msg (fun k' a' b' c' ids' rows' nats' h1 h2 h3 => by cases (HS.out.2 _ _ _ _ _ _ _ h1 h2 h3).1) (put7_below hB3 hwG (.int .i64 0) (.int .i64 0) (.int .i64 0) (.int .i64 0) (.slice none 0 0) (.slice none 0 0) (.slice none 0 0))
    clear HS HRt HW hB3
    go_wp2_with fail
    exact bodyPost_ret (v := .tuple #[.agg #[.int .i64 0, .int .i64 0, .int .i64 0, .int .i64 0, .slice none 0 0, .slice none 0 0, .slice none 0 0], .int .i64 16]) (by simp [results, Try.results11, go_sem, r0, r1, r2, r3, r4, r5, r6]) rfl HE.out
  | true =>
    go_wp2_with fail
    refine Calls.mono HRt.out ?_
    rintro e w4 ⟨r, rfl, hr, hb4⟩
    obtain ⟨q, hq⟩ : ∃ q, q = w2.heap.size := ⟨_, rfl⟩
    have hM4 := HW.out.2.1.kept (hb4.block G HW.out.2.1.lt)
    have hQ4 := HW.out.2.2.1.kept (hb4.block _ HW.out.2.2.1.lt)
    have hB4 := bthen hB3 hb4
    rw [← hq] at hQ4
    rw [← hq]
    clear m0 m1 m2 m3 m4 m5 m6 r0 r1 r2 r3 r4 r5 r6 f0 f1 f2 f3 f4 f5 f6 hB3 hq
    obtain ⟨⟨m0, m1, m2, m3, m4, m5, m6⟩, -⟩ := hQ4.cells
    obtain ⟨⟨r0, r1, r2, r3, r4, r5, r6⟩, fz⟩ := hM4.cells
    have f0 := fz 0
    have f1 := fz 1
    have f2 := fz 2
    have f3 := fz 3
    have f4 := fz 4
    have f5 := fz 5
    have f6 := fz 6
    cases r with
    | false =>
      have HE : Hid (MDecT L w (.returned (.tuple #[.agg #[.int .i64 0, .int .i64 0, .int .i64 0, .int .i64 0, .slice none 0 0, .slice none 0 0, .slice none 0 0], .int .i64 16])) (((((((w4.setCell ⟨G, 0, none⟩ (.int .i64 0)).setCell ⟨G, 1, none⟩ (.int .i64 0)).setCell ⟨G, 2, none⟩ (.int .i64 0)).setCell ⟨G, 3, none⟩ (.int .i64 0)).setCell ⟨G, 4, none⟩ (.slice none 0 0)).setCell ⟨G, 5, none⟩ (.slice none 0 0)).setCell ⟨G, 6, none⟩ (.slice none 0 0))) := no_msg (fun k' a' b' c' ids' rows' nats' h1 h2 h3 => by
        obtain ⟨-, ⟨rfl, rfl, rfl, rfl⟩, rfl, rfl, rfl⟩ := HS.out.2 _ _ _ _ _ _ _ h1 h2 h3
        cases hr.2 h1) (put7_below hB4 hwG (.int .i64 0) (.int .i64 0) (.int .i64 0) (.int .i64 0) (.slice none 0 0) (.slice none 0 0) (.slice none 0 0))
      clear HS HRt HW hB4 hM4 hQ4 fz hb4 hr
      go_wp2_with fail
      exact bodyPost_ret (v := .tuple #[.agg #[.int .i64 0, .int .i64 0, .int .i64 0, .int .i64 0, .slice none 0 0, .slice none 0 0, .slice none 0 0], .int .i64 16]) (by simp [results, Try.results11, go_sem, r0, r1, r2, r3, r4, r5, r6]) rfl HE.out
    | true =>
      have HE : Hid (MDecT L w (.returned (.tuple #[.agg #[.int .i64 k, .int .i64 a, .int .i64 b, .int .i64 c, .slice pi li ci, .slice pr lr cr, .slice pn ln cn], .int .i64 0])) (((((((w4.setCell ⟨G, 0, none⟩ (.int .i64 k)).setCell ⟨G, 1, none⟩ (.int .i64 a)).setCell ⟨G, 2, none⟩ (.int .i64 b)).setCell ⟨G, 3, none⟩ (.int .i64 c)).setCell ⟨G, 4, none⟩ (.slice pi li ci)).setCell ⟨G, 5, none⟩ (.slice pr lr cr)).setCell ⟨G, 6, none⟩ (.slice pn ln cn))) := by
        have gp := put7_grown w4 G (.int .i64 k) (.int .i64 a) (.int .i64 b) (.int .i64 c) (.slice pi li ci) (.slice pr lr cr) (.slice pn ln cn)
        have hbp := put7_below hB4 hwG (.int .i64 k) (.int .i64 a) (.int .i64 b) (.int .i64 c) (.slice pi li ci) (.slice pr lr cr) (.slice pn ln cn)
        generalize (((((((w4.setCell ⟨G, 0, none⟩ (.int .i64 k)).setCell ⟨G, 1, none⟩ (.int .i64 a)).setCell ⟨G, 2, none⟩ (.int .i64 b)).setCell ⟨G, 3, none⟩ (.int .i64 c)).setCell ⟨G, 4, none⟩ (.slice pi li ci)).setCell ⟨G, 5, none⟩ (.slice pr lr cr)).setCell ⟨G, 6, none⟩ (.slice pn ln cn)) = wz at gp hbp ⊢
        have kpz := (Kp.below hb4).trans (Kp.grown gp (fun b e => by cases e; exact hM4.plain))
        have nz := (HW.out.1.2.2.below hb4).head gp hM4.head (fun b e => by have := ((HW.out.1.2.2.below hb4).own b e).2.1; have := HW.out.2.2.2.1; omega)
        obtain ⟨pz, cz, ez, hNR, -⟩ := nz.row
        obtain ⟨rfl, rfl, rfl⟩ : pn = pz ∧ ln = nats.length ∧ cn = cz := by injection ez with e1 e2 e3; exact ⟨e1, e2, e3⟩
        exact ⟨k, a, b, c, pi, li, ci, pr, lr, cr, pn, _, cn, ids, rows, nats, 0, rfl, ⟨(HW.out.1.1.kp kpz).lsts, (HW.out.1.2.1.kp kpz).lsts, hNR⟩, .inl ⟨hr.1 rfl, HS.out.1 (by first | rfl | trivial), HL.out, rfl⟩, hbp⟩
      clear HS HRt HW hB4 hM4 hQ4 fz hb4 hr
      go_wp2_with fail
      exact bodyPost_ret (v := .tuple #[.agg #[.int .i64 k, .int .i64 a, .int .i64 b, .int .i64 c, .slice pi li ci, .slice pr lr cr, .slice pn ln cn], .int .i64 0]) (by simp [results, Try.results11, go_sem, r0, r1, r2, r3, r4, r5, r6]) rfl HE.out
theorem dec_ok12 : DecOk12 := fun p lb cb L w h _ hl => x12dec_any p lb cb L w h hl
end Go.Proofs.Ytnbdbahfekneoab
