/-
  Contracts of the program's number, things and list of numbers (wire).
-/
import Derived.Test.YtnbdbahfekneoaaX9P
import Derived.Test.YtnbdbahfekneoaaRef12F
namespace Go.Proofs.Ytnbdbahfekneoaa
open Go.RowKit

theorem CRdQ.both {Q : Nat → Prop} {w : World} {g : Nat} {L : List Int} (h : CRdQ Q w g L) : CRdQ (fun b => Q b ∧ b < w.heap.size) w g L := by
  obtain ⟨a, l, c, h0, h1, h2, h3, h4⟩ := h
  refine ⟨a, l, c, h0, h1, h2, h3, fun ad e hl => ⟨h4 ad e hl, ?_⟩⟩
  obtain ⟨b, off, rfl, hc⟩ := h2.cells hl
  cases e
  exact World.block_lt_of_cell? _ _ (hc 0 hl)
theorem CRdQ.otherQ {Q : Nat → Prop} {B : Nat} (hQ : ∀ b, Q b → b < B) {w w' : World} {g : Nat} {L : List Int} (h : CRdQ Q w g L) (hg : g < B) (hb : Below B w w') : CRdQ Q w' g L := by
  obtain ⟨a, l, c, h0, h1, h2, h3, h4⟩ := h
  refine ⟨a, l, c, h0, (hb.block g hg).trans h1, ⟨h2.hlen, h2.hcap, h2.hmax, fun hl => ?_, h2.word⟩, h3, h4⟩
  obtain ⟨b, off, rfl, hc⟩ := h2.cells hl
  refine ⟨b, off, rfl, fun i hi => ?_⟩
  rw [World.cell?_of_block (hb.block b (hQ _ (h4 _ rfl hl)))]
  exact hc i hi
theorem ResNum.sound {L R : List Int} {most n : Nat} {err : Int} (h : ResNum L most n err R) (he : err = 0) : ∃ c, IsCode c n ∧ L = c ++ R := by
  obtain ⟨m, k, h1, ⟨_, _, e, _⟩ | ⟨hc, rfl, _, rfl⟩⟩ := h
  · rw [he] at e; cases e
  · obtain ⟨_, _, h2⟩ := h1.pos (by omega)
    exact ⟨L.take k, h2, (List.take_append_drop k L).symm⟩
/-- A number is read. -/
def NmT (Q : Nat → Prop) (L : List Int) (w : World) (g : Nat) (e : Ending) (w' : World) : Prop :=
  ∃ (n : Nat) (ok : Bool) (R : List Int), e = .returned (.tuple #[.int .i64 (n : Int), .bool ok]) ∧ n ≤ 1073741824 ∧ CRdQ Q w' g R ∧ w.grownBy w' (some g) ∧ (ok = true → ∃ c, IsCode c n ∧ L = c ++ R) ∧
    ∀ m c T, IsCode c m → m ≤ 1073741824 → L = c ++ T → ok = true ∧ n = m ∧ R = T
set_option maxRecDepth 20000 in
set_option maxHeartbeats 1600000 in
theorem x12numr_any {Q : Nat → Prop} (g : Nat) (L : List Int) (w : World) (h : CRdQ Q w g L) : Calls Try.prog 51 #[.pointer (some ⟨g, 0, none⟩)] w fun e w' => NmT Q L w g e w' := by
  go_enter Try.func51, Try.ntmps51
  go_wp2_with fail
  refine (c9rnum_any g L 1073741824 _ h).mono ?_
  rintro e w1 ⟨n, er, R, rfl, hr, hA, hg⟩
  have hn := hr.most
  have hwx : IntKind.i64.wrap (n : Int) = n := by simp [IntKind.wrap, IntKind.signed, IntKind.bits]; omega
  have HC : Hid (∀ m c T, IsCode c m → m ≤ 1073741824 → L = c ++ T → er = 0 ∧ n = m ∧ R = T) := fun m c T h1 h2 h3 => by
    obtain ⟨q1, q2, q3⟩ := hr.at h1 h2 (by omega) h3
    exact ⟨q2, q1, q3⟩
  have HS : Hid (er = 0 → ∃ c, IsCode c n ∧ L = c ++ R) := fun e => hr.sound e
  clear hr h
  by_cases z : er = 0
  · subst z
    have HR : Hid (NmT Q L w g (.returned (.tuple #[.int .i64 (n : Int), .bool true])) w1) := ⟨n, true, R, rfl, hn, hA, hg, fun _ => HS.out rfl, fun m c T h1 h2 h3 => ⟨rfl, (HC.out m c T h1 h2 h3).2⟩⟩
    clear hA hg HC HS
    go_wp2
    go_ret2
    exact HR.out
  · have zd : (er == 0) = false := by simp [z]
    have HR : Hid (NmT Q L w g (.returned (.tuple #[.int .i64 (n : Int), .bool false])) w1) := ⟨n, false, R, rfl, hn, hA, hg, fun e => (by cases e), fun m c T h1 h2 h3 => absurd (HC.out m c T h1 h2 h3).1 z⟩
    clear hA hg HC HS z
    go_wp2
    go_ret2
    exact HR.out
/-- So many numbers are read. -/
def ThT (Q : Nat → Prop) (L : List Int) (w : World) (g count : Nat) (e : Ending) (w' : World) : Prop :=
  ∃ a l c ns ok R, e = .returned (.tuple #[.slice a l c, .bool ok]) ∧ Lsts w' a l c (ints ns) ∧ ((∀ n, n ∈ ns → n ≤ 1073741824) ∧ ns.length ≤ count) ∧ ((a = none → c = 0) ∧ ∀ ad, a = some ad → 0 < l → w.heap.size ≤ ad.block ∧ ∃ cur, w'.heap[ad.block]? = some (.cells cur 3 (0, 0))) ∧ CRdQ Q w' g R ∧ w.grownBy w' (some g) ∧ (ok = true → ns.length = count ∧ ∃ y, CodesOf ns y ∧ L = y ++ R) ∧
    ∀ ms T y, CodesOf ms y → L = y ++ T → ms.length = count → (∀ m, m ∈ ms → m ≤ 1073741824) → ok = true ∧ ns = ms ∧ R = T
set_option maxRecDepth 20000 in
set_option maxHeartbeats 6400000 in
theorem x12th_any {Q : Nat → Prop} (g : Nat) (L : List Int) (count : Nat) (w : World) (h : CRdQ Q w g L) (hct : count ≤ 16384) :
    Calls Try.prog 50 #[.pointer (some ⟨g, 0, none⟩), .int .i64 (count : Int), .func (.func 51) #[] #[]] w fun e w' => ThT Q L w g count e w' := by
  have hgl := h.lt
  replace h := h.both
  have hcf := Try.call51
  have HBAD : Hid (∀ (wx : World) (R : List Int), CRdQ (fun b => Q b ∧ b < w.heap.size) wx g R → w.grownBy wx (some g) → (∀ ms T y, CodesOf ms y → L = y ++ T → ms.length = count → (∀ m, m ∈ ms → m ≤ 1073741824) → False) → Hid (ThT Q L w g count (.returned (.tuple #[.slice none 0 0, .bool false])) wx)) := fun wx R hA hg hn => ⟨none, 0, 0, [], false, R, rfl, Lsts.nil _, ⟨fun n hn => absurd hn (by simp), by simp⟩, ⟨fun _ => rfl, fun _ e => (by cases e)⟩, hA.mono (fun _ q => q.1), hg, fun e => (by cases e), fun ms T y h1 h2 h3 h4 => absurd (hn ms T y h1 h2 h3 h4) id⟩
  go_enter Try.func50, Try.ntmps50
  go_wp2_with fail
  go_loopw [8, 12] (fun v6 v7 wr => ∃ (i : Nat) (ns : List Nat) (R : List Int), v7 = .int .i64 i ∧ i ≤ count ∧ IOwn wr w.heap.size v6 (ints ns) ∧ ns.length = i ∧ Hid (∀ m, m ∈ ns → m ≤ 1073741824) ∧ CRdQ (fun b => Q b ∧ b < w.heap.size) wr g R ∧ w.grownBy wr (some g) ∧ Hid (∃ y, CodesOf ns y ∧ L = y ++ R) ∧ Hid (∀ ms T y, CodesOf ms y → L = y ++ T → ms.length = count → (∀ m, m ∈ ms → m ≤ 1073741824) → ns = ms.take i ∧ ∃ y', CodesOf (ms.drop i) y' ∧ R = y' ++ T)) (fun _ v7 _ => count - (intOf v7).toNat)
  case atStart => exact ⟨0, [], L, rfl, Nat.zero_le _, IOwn.nil _ _, rfl, fun m hm => absurd hm (by simp), h, World.grownBy.refl _ _, ⟨[], rfl, rfl⟩, fun ms T y h1 h2 h3 h4 => ⟨by simp, y, h1, h2⟩⟩
  case round =>
    clear h
    obtain ⟨i, ns, R, rfl, hi, hown, hnl, HB, hA, hg, HS, HF⟩ := hrel
    by_cases hlt : i < count
    · have hlti : (i : Int) < (count : Int) := by omega
      have hsz := hg.size
      go_wp2_with fail
      refine (x12numr_any g R _ hA).mono ?_
      rintro e w2 ⟨x, ok, R2, rfl, hxb, hA2, hg2, hs2, hc2⟩
      have hgg := grown_then hg hg2
      have hown2 := hown.grown hg2 hgl
      have hsz2 := hgg.size
      have HS2 : Hid (ok = true → ∃ y, CodesOf (ns ++ [x]) y ∧ L = y ++ R2) := fun e => by
        obtain ⟨y, f1, f2⟩ := HS.out
        obtain ⟨c, f3, f4⟩ := hs2 e
        exact ⟨y ++ c, f1.snoc f3, by rw [f2, f4, List.append_assoc]⟩
      have HSTEP : Hid (∀ ms T y, CodesOf ms y → L = y ++ T → ms.length = count → (∀ m, m ∈ ms → m ≤ 1073741824) → ok = true ∧ ns ++ [x] = ms.take (i + 1) ∧ ∃ y', CodesOf (ms.drop (i + 1)) y' ∧ R2 = y' ++ T) := fun ms T y h1 h2 h3 h4 => by
        obtain ⟨f2, y', f3, f4⟩ := HF.out ms T y h1 h2 h3 h4
        have hil : i < ms.length := by omega
        rw [List.drop_eq_getElem_cons hil] at f3
        obtain ⟨c, r, k1, k2, rfl⟩ := f3
        rw [List.append_assoc] at f4
        have hm := h4 _ (List.getElem_mem hil)
        obtain ⟨q1, q2, q3⟩ := hc2 _ _ _ k1 hm f4
        refine ⟨q1, ?_, r, k2, q3⟩
        rw [q2, f2, List.take_add_one]
        simp [hil]
      clear hs2 hc2 HS HF hA hg hg2 hown
      cases ok with
      | false =>
        have HE := HBAD.out w2 R2 hA2 hgg (fun ms T y h1 h2 h3 h4 => by cases (HSTEP.out ms T y h1 h2 h3 h4).1)
        clear HBAD hA2 hgg hown2 HSTEP HB HS2
        go_wp2_with fail
        first | exact HE.out | (go_ret2; exact HE.out)
      | true =>
        have hil : (ints ns).length < 1000000 := by rw [ints_len]; omega
        have hlit := balloc w2 (.cells #[.int .i64 (x : Int)] 3)
        have hown3 := hown2.alloc (.cells #[.int .i64 (x : Int)] 3)
        have hA3 := hA2.below hlit
        have hgg3 := grown_low hgg (hlit.mono hsz2)
        have HOW : Hid (IOwn (w2.alloc (.cells #[.int .i64 (x : Int)] 3)) w.heap.size u8 (ints ns)) := hown3
        clear hown2 hA2 hgg hlit
        go_wp2_with (at_builtin; refine wpList_appI1 _ rfl _ _ 22 rfl Try.underlying22 w.heap.size _ (ints ns) rfl hown3 ⟨w2.heap.size, 0, none⟩ (x : Int) rfl ?c1 hil ?c2 ?_)
        case c1 => simp
        case c2 => simp; omega
        intro v' w4 hown4 hg4
        have hb4 := below_of_own HOW.out hg4 (by simp; omega)
        have hA4 := hA3.otherQ (fun _ q => q.2) hgl hb4
        have hgg4 := grown_low hgg3 hb4
        rw [← ints_snoc] at hown4
        have HN : Hid ((∀ m, m ∈ ns ++ [x] → m ≤ 1073741824) ∧ (ns ++ [x]).length = i + 1) := ⟨fun m hm => by
          rcases List.mem_append.1 hm with q | q
          · exact HB.out m q
          · simp at q
            omega, by simp [hnl]⟩
        have HS3 : Hid (∃ y, CodesOf (ns ++ [x]) y ∧ L = y ++ R2) := HS2.out (by first | rfl | trivial)
        have HS4 : Hid (∀ ms T y, CodesOf ms y → L = y ++ T → ms.length = count → (∀ m, m ∈ ms → m ≤ 1073741824) → ns ++ [x] = ms.take (i + 1) ∧ ∃ y', CodesOf (ms.drop (i + 1)) y' ∧ R2 = y' ++ T) := fun ms T y h1 h2 h3 h4 => (HSTEP.out ms T y h1 h2 h3 h4).2
        clear hown3 hA3 hgg3 HOW hg4 hb4 HB HSTEP HBAD HS2
        go_wp2
        go_roundw
        case rel => exact ⟨i + 1, ns ++ [x], R2, by go_num, by omega, hown4, HN.out.2, HN.out.1, hA4, hgg4, HS3, HS4⟩
        case measure => simp [intOf]; omega
    · obtain rfl : i = count := by omega
      obtain ⟨oa, oc, rfl, hO, on, of⟩ := hown.fresh (fun x hx => by
        unfold ints at hx
        obtain ⟨m, hm, rfl⟩ := List.mem_map.1 hx
        have := HB.out m hm
        omega)
      have HE : Hid (ThT Q L w g i (.returned (.tuple #[.slice oa (ints ns).length oc, .bool true])) wr) := ⟨oa, _, oc, ns, true, R, rfl, hO, ⟨HB.out, by omega⟩, ⟨on, fun ad e _ => of ad e⟩, hA.mono (fun _ q => q.1), hg, fun _ => ⟨hnl, HS.out⟩, fun ms T y h1 h2 h3 h4 => by
        obtain ⟨f2, y', f3, f4⟩ := HF.out ms T y h1 h2 h3 h4
        rw [List.drop_eq_nil_of_le (by omega)] at f3
        have e : y' = [] := f3
        rw [e] at f4
        exact ⟨rfl, by rw [f2, List.take_of_length_le (by omega)], f4⟩⟩
      clear hown hO on of HB HF hA hg HBAD HS
      go_wp2_with fail
      first | exact HE.out | (go_ret2; exact HE.out)
/-- A list of numbers is read. -/
def LsT (Q : Nat → Prop) (L : List Int) (w : World) (g : Nat) (e : Ending) (w' : World) : Prop :=
  ∃ a l c ns ok R, e = .returned (.tuple #[.slice a l c, .bool ok]) ∧ Lsts w' a l c (ints ns) ∧ ((∀ n, n ∈ ns → n ≤ 1073741824) ∧ ns.length ≤ 16384) ∧ ((a = none → c = 0) ∧ ∀ ad, a = some ad → 0 < l → w.heap.size ≤ ad.block ∧ ∃ cur, w'.heap[ad.block]? = some (.cells cur 3 (0, 0))) ∧ CRdQ Q w' g R ∧ w.grownBy w' (some g) ∧ (ok = true → ∃ y, IsLst ns y ∧ L = y ++ R) ∧
    ∀ ms T y, IsLst ms y → L = y ++ T → ms.length ≤ 16384 → (∀ m, m ∈ ms → m ≤ 1073741824) → ok = true ∧ ns = ms ∧ R = T
set_option maxRecDepth 20000 in
set_option maxHeartbeats 3200000 in
theorem x12ls_any {Q : Nat → Prop} (g : Nat) (L : List Int) (w : World) (h : CRdQ Q w g L) :
    Calls Try.prog 52 #[.pointer (some ⟨g, 0, none⟩), .func (.func 51) #[] #[]] w fun e w' => LsT Q L w g e w' := by
  go_enter Try.func52, Try.ntmps52
  go_wp2_with fail
  refine (c9rnum_any g L 16384 _ h).mono ?_
  rintro e w1 ⟨n, e1, L1, rfl, hr1, hA1, hg1⟩
  have hn := hr1.most
  have hsz1 := hg1.size
  have HR1 : Hid (ResNum L 16384 n e1 L1) := hr1
  clear h hr1
  by_cases z1 : e1 = 0
  case neg =>
    have HB : Hid (LsT Q L w g (.returned (.tuple #[.slice none 0 0, .bool false])) w1) := ⟨none, 0, 0, [], false, L1, rfl, Lsts.nil _, ⟨fun n hn => absurd hn (by simp), by simp⟩, ⟨fun _ => rfl, fun _ e => (by cases e)⟩, hA1, hg1, fun e => (by cases e), fun ms T y h1 h2 h3 h4 => by
      obtain ⟨c, r, k1, k2, rfl⟩ := h1
      rw [List.append_assoc] at h2
      exact absurd (HR1.out.at k1 h3 (by omega) h2).2.1 z1⟩
    have z1d : (e1 != 0) = true := by simp [z1]
    have z1e : (e1 == 0) = false := by simp [z1]
    clear hA1 hg1 HR1 z1
    go_wp2_with fail
    first | exact HB.out | (go_ret2; exact HB.out)
  subst z1
  have hwx : IntKind.i64.wrap (n : Int) = n := by simp [IntKind.wrap, IntKind.signed, IntKind.bits]; omega
  have HT := (show Hid _ from x12th_any g L1 n w1 hA1 hn)
  clear hA1
  go_wp2_with fail
  refine Calls.mono HT.out ?_
  rintro e w2 ⟨a, l, c, ns, ok, R, rfl, k1, ⟨k2, k3⟩, ⟨k4, k5⟩, k6, k7, k8, k9⟩
  have HE : Hid (LsT Q L w g (.returned (.tuple #[.slice a l c, .bool ok])) w2) := ⟨a, l, c, ns, ok, R, rfl, k1, ⟨k2, by omega⟩, ⟨k4, fun ad e hp => ⟨Nat.le_trans hsz1 (k5 ad e hp).1, (k5 ad e hp).2⟩⟩, k6, grown_then hg1 k7, fun e => by
    obtain ⟨c0, f1, f2⟩ := HR1.out.sound rfl
    obtain ⟨f3, y, f4, f5⟩ := k8 e
    exact ⟨c0 ++ y, ⟨c0, y, by rw [f3]; exact f1, f4, rfl⟩, by rw [f2, f5, List.append_assoc]⟩, fun ms T y h1 h2 h3 h4 => by
    obtain ⟨c0, r, q1, q2, rfl⟩ := h1
    rw [List.append_assoc] at h2
    obtain ⟨p1, -, p3⟩ := HR1.out.at q1 h3 (by omega) h2
    exact k9 ms T r q2 p3 p1.symm h4⟩
  clear HT HR1 k1 k2 k3 k4 k5 k6 k7 k8 k9 hg1
  go_wp2
  go_ret2
  exact HE.out
end Go.Proofs.Ytnbdbahfekneoaa
