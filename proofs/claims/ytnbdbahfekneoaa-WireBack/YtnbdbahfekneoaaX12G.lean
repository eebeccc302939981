/-
  Contracts of the program's natural, things and list of natural numbers (wire).
-/
import Derived.Test.YtnbdbahfekneoaaX12F
import Derived.Test.YtnbdbahfekneoaaRef12H
import Derived.Test.YtnbdbahfekneoaaBytB
import Derived.Test.YtnbdbahfekneoaaNRowH
namespace Go.Proofs.Ytnbdbahfekneoaa
open Go.RowKit

theorem ResBytR.sound {L ys R : List Int} {most err : Int} (h : ResBytR L most ys err R) (he : err = 0) : ∃ cd, IsCode cd ys.length ∧ L = cd ++ (ys ++ R) := by
  obtain ⟨m, k, h1, ⟨_, _, e, _⟩ | ⟨hc, rfl, _, rfl⟩⟩ := h
  · rw [he] at e; cases e
  · obtain ⟨_, _, h2⟩ := h1.pos (by omega)
    have hl : ((L.drop k).take m).length = m := by simp; omega
    refine ⟨L.take k, by rw [hl]; exact h2, ?_⟩
    rw [← List.drop_drop, List.take_append_drop, List.take_append_drop]
theorem ResBytR.at12 {c bs T L ys R : List Int} {most err : Int} (h : ResBytR L most ys err R) (hc : IsCode c bs.length) (hn : (bs.length : Int) ≤ most) (hb : bs.length < 18446744073709551616) (hL : L = c ++ (bs ++ T)) : ys = bs ∧ err = 0 ∧ R = T := by
  subst hL
  refine h.unique ⟨bs.length, c.length, NextT.of_code hc hb, .inr ⟨fun e => ?_, by simp, rfl, by rw [← List.drop_drop]; simp⟩⟩
  rcases e with e | e | e | e
  · exact hc.nonempty (List.eq_nil_of_length_eq_zero e)
  · omega
  · omega
  · simp at e
    omega
/-- The number that bytes are has these bytes. -/
theorem bytes_of_read {ys zs : List Int} {er : Int} (hd : Digs 256 ys) (ht : Top ys.reverse) (h : Res (val 256 ys.reverse) zs er) (he : er = 0) : ResBytes zs ys := by
  rcases h with ⟨_, h1, h2, h3, h4⟩ | ⟨e, _⟩
  · have hr : rightB zs = true := by
      unfold rightB
      simp
      refine ⟨h3, ?_⟩
      rcases h2 with e | e
      · exact .inl e
      · exact .inr e
    unfold ResBytes
    rw [if_pos hr]
    exact ⟨hd, ht, h4.symm⟩
  · rw [he] at e; cases e
theorem top_first {ys : List Int} (h : ys = [] ∨ ys.getD 0 0 ≠ 0) : Top ys.reverse := by
  cases ys with
  | nil => exact .inl rfl
  | cons y l =>
    right
    rcases h with e | e
    · cases e
    · simpa [List.getD] using e
theorem first_top {ys : List Int} (h : Top ys.reverse) : ys = [] ∨ ys.getD 0 0 ≠ 0 := by
  cases ys with
  | nil => exact .inl rfl
  | cons y l =>
    right
    rcases h with e | e
    · simp at e
    · simpa [List.getD] using e
/-- A natural number is read. -/
def NtT (Q : Nat → Prop) (L : List Int) (w : World) (g : Nat) (e : Ending) (w' : World) : Prop :=
  ∃ a l c zs ok R, e = .returned (.tuple #[.slice a l c, .bool ok]) ∧ Nums w' a l c zs ∧ CRdQ Q w' g R ∧ w.grownBy w' (some g) ∧ (ok = true → ∃ cd bs, IsCode cd bs.length ∧ L = cd ++ (bs ++ R) ∧ ResBytes zs bs) ∧
    ∀ zs' bs cd T, IsCode cd bs.length → ResBytes zs' bs → rightB zs' = true → zs'.length ≤ 4 → Digs 18446744073709551616 zs' → L = cd ++ (bs ++ T) → ok = true ∧ zs = zs' ∧ R = T
set_option maxRecDepth 20000 in
set_option maxHeartbeats 3200000 in
theorem x12nt_any {Q : Nat → Prop} (g : Nat) (L : List Int) (w : World) (h : CRdQ Q w g L) : Calls Try.prog 54 #[.pointer (some ⟨g, 0, none⟩)] w fun e w' => NtT Q L w g e w' := by
  go_enter Try.func54, Try.ntmps54
  go_wp2_with fail
  refine (c9rbyt_any g L 32 _ h (by decide)).mono ?_
  rintro e w1 ⟨ya, yl, yc, ys, er, R, rfl, ⟨hY, -, -⟩, hr, hA, hg⟩
  have hyl := hY.hlen
  have hym := hY.hmax
  have hyc := hY.hcap
  unfold maxLen at hym
  have HC : Hid (∀ zs' bs cd T, IsCode cd bs.length → ResBytes zs' bs → rightB zs' = true → zs'.length ≤ 4 → Digs 18446744073709551616 zs' → L = cd ++ (bs ++ T) → er = 0 ∧ ys = bs ∧ R = T) := fun zs' bs cd T h1 h2 h3 h4 h5 h6 => by
    have hb := natbytes_len h2 h3 h4 h5
    obtain ⟨q1, q2, q3⟩ := hr.at12 h1 (by omega) (by omega) h6
    exact ⟨q2, q1, q3⟩
  have HS : Hid (er = 0 → ∃ cd, IsCode cd ys.length ∧ L = cd ++ (ys ++ R)) := fun e => hr.sound e
  have HBAD : Hid ((∀ zs' bs cd T, IsCode cd bs.length → ResBytes zs' bs → rightB zs' = true → zs'.length ≤ 4 → Digs 18446744073709551616 zs' → L = cd ++ (bs ++ T) → False) → Hid (NtT Q L w g (.returned (.tuple #[.slice none 0 0, .bool false])) w1)) := fun hn => ⟨none, 0, 0, [], false, R, rfl, Nums.nil _, hA, hg, fun e => (by cases e), fun zs' bs cd T h1 h2 h3 h4 h5 h6 => absurd (hn zs' bs cd T h1 h2 h3 h4 h5 h6) id⟩
  clear hr h
  by_cases z : er = 0
  case neg =>
    have HE := HBAD.out (fun zs' bs cd T h1 h2 h3 h4 h5 h6 => z (HC.out zs' bs cd T h1 h2 h3 h4 h5 h6).1)
    have zd : (er != 0) = true := by simp [z]
    have ze : (er == 0) = false := by simp [z]
    clear HBAD HC HS z hA hg hY
    go_wp2_with fail
    first | exact HE.out | (go_ret2; exact HE.out)
  subst z
  have go : Hid ((ys = [] ∨ ys.getD 0 0 ≠ 0) → Calls Try.prog 65 #[.slice ya yl yc] w1 fun e w' => ∃ a l c zs er, e = .returned (.tuple #[.slice a l c, .int .i64 er]) ∧ (er = 0 → Hid (NtT Q L w g (.returned (.tuple #[.slice a l c, .bool true])) w')) ∧ (er ≠ 0 → Hid (NtT Q L w g (.returned (.tuple #[.slice a l c, .bool false])) w')) ∧ zs = zs) := fun hf => by
    refine (read_any ya yl yc ys w1 hY).mono ?_
    rintro e w2 ⟨a, l, c, zs, er, rfl, hN, hRes, hb⟩
    have comp : ∀ zs' bs cd T, IsCode cd bs.length → ResBytes zs' bs → rightB zs' = true → zs'.length ≤ 4 → Digs 18446744073709551616 zs' → L = cd ++ (bs ++ T) → er = 0 ∧ zs = zs' ∧ R = T := fun zs' bs cd T h1 h2 h3 h4 h5 h6 => by
      obtain ⟨-, q2, q3⟩ := HC.out zs' bs cd T h1 h2 h3 h4 h5 h6
      subst q2
      have e := nat_again h2 h3 h5 hRes
      refine ⟨?_, e, q3⟩
      rcases hRes with ⟨e0, _⟩ | ⟨_, e1, xs, x1, x2, x3, x4⟩
      · exact e0
      · exfalso
        have h7 := h2
        unfold ResBytes at h7
        rw [if_pos h3] at h7
        have := val_inj (B := 18446744073709551616) (by decide) x1 h5 x2 (top_right h3).1 (x3.trans h7.2.2)
        rw [this] at x4
        omega
    have hA2 := hA.below hb
    have hg2 := grown_low hg (hb.mono hg.size)
    refine ⟨a, l, c, zs, er, rfl, fun e => ?_, fun e => ?_, rfl⟩
    · obtain ⟨cd, f1, f2⟩ := HS.out rfl
      exact ⟨a, l, c, zs, true, R, rfl, hN, hA2, hg2, fun _ => ⟨cd, ys, f1, f2, bytes_of_read hY.digs (top_first hf) hRes e⟩, fun zs' bs cd T h1 h2 h3 h4 h5 h6 => ⟨rfl, (comp zs' bs cd T h1 h2 h3 h4 h5 h6).2⟩⟩
    · exact ⟨a, l, c, zs, false, R, rfl, hN, hA2, hg2, fun e => (by cases e), fun zs' bs cd T h1 h2 h3 h4 h5 h6 => absurd (comp zs' bs cd T h1 h2 h3 h4 h5 h6).1 e⟩
  have HZ : Hid (ys.getD 0 0 = 0 → 0 < yl → Hid (NtT Q L w g (.returned (.tuple #[.slice none 0 0, .bool false])) w1)) := fun hz hp => HBAD.out (fun zs' bs cd T h1 h2 h3 h4 h5 h6 => by
    obtain ⟨-, q2, -⟩ := HC.out zs' bs cd T h1 h2 h3 h4 h5 h6
    subst q2
    unfold ResBytes at h2
    rw [if_pos h3] at h2
    rcases first_top h2.2.1 with e | e
    · rw [e] at hyl; simp at hyl; omega
    · exact e hz)
  have HY : Hid (ys.length = yl) := hyl
  by_cases h0 : yl = 0
  · subst h0
    have HG := (show Hid _ from go.out (.inl (List.eq_nil_of_length_eq_zero hyl)))
    clear go HBAD HZ HC HS hA hg hY hyl
    go_wp2_with fail
    refine Calls.mono HG.out ?_
    rintro e w2 ⟨a, l, c, zs, er, rfl, h1, h2, -⟩
    have H1 := (show Hid _ from h1)
    have H2 := (show Hid _ from h2)
    clear h1 h2 HG
    by_cases z : er = 0
    · subst z
      go_wp2
      go_ret2
      exact (H1.out (by first | rfl | trivial)).out
    · have zd : (er == 0) = false := by simp [z]
      have HE := H2.out z
      clear H1 H2 z
      go_wp2
      go_ret2
      exact HE.out
  · have hp : (0 : Int) < (yl : Int) := by omega
    obtain ⟨b, off, rfl, hc⟩ := hY.cells (by omega)
    obtain ⟨x, hx⟩ : ∃ x, x = ys.getD 0 0 := ⟨_, rfl⟩
    have hc1 : w1.cell? ⟨b, off, none⟩ = some (.int .u8 x) := by rw [hx]; have := hc 0 (by omega); simpa using this
    by_cases hx0 : x = 0
    · have HE := HZ.out (by rw [← hx]; exact hx0) (by omega)
      subst hx0
      clear go HBAD HZ HC HS hA hg hY hyl hc hx
      go_wp2_with fail
      first | exact HE.out | (go_ret2; exact HE.out)
    · have hxd : (x == 0) = false := by simp [hx0]
      have HG := (show Hid _ from go.out (.inr (by rw [← hx]; exact hx0)))
      clear go HBAD HZ HC HS hA hg hY hyl hc hx hx0
      go_wp2_with fail
      refine Calls.mono HG.out ?_
      rintro e w2 ⟨a, l, c, zs, er, rfl, h1, h2, -⟩
      have H1 := (show Hid _ from h1)
      have H2 := (show Hid _ from h2)
      clear h1 h2 HG hc1
      by_cases z : er = 0
      · subst z
        go_wp2
        go_ret2
        exact (H1.out (by first | rfl | trivial)).out
      · have zd : (er == 0) = false := by simp [z]
        have HE := H2.out z
        clear H1 H2 z
        go_wp2
        go_ret2
        exact HE.out
/-- So many natural numbers are read. -/
def RgtN (nats : List (List Int)) : Prop := ∀ i, i < nats.length → rightB (nats.getD i []) = true ∧ (nats.getD i []).length ≤ 4
def TnT (Q : Nat → Prop) (L : List Int) (w : World) (g count : Nat) (e : Ending) (w' : World) : Prop :=
  ∃ v ns ok R, e = .returned (.tuple #[v, .bool ok]) ∧ NHd w' w.heap.size v ns ∧ ns.length ≤ count ∧ CRdQ Q w' g R ∧ w.grownBy w' (some g) ∧ (ok = true → ns.length = count ∧ ∃ bss y, NatsB ns bss ∧ BlobsOf bss y ∧ L = y ++ R) ∧
    ∀ ms bss T y, NatsB ms bss → BlobsOf bss y → L = y ++ T → ms.length = count → RgtN ms → DigsN ms → ok = true ∧ ns = ms ∧ R = T
theorem natsB_snoc {ns bss : List (List Int)} {zs bs : List Int} (h : NatsB ns bss) (k : ResBytes zs bs) : NatsB (ns ++ [zs]) (bss ++ [bs]) := by
  refine ⟨by simp [h.1], fun i hi => ?_⟩
  by_cases q : i < ns.length
  · rw [nh_snoc q, nh_snoc (by rw [h.1]; exact q)]
    exact h.2 i q
  · obtain rfl : i = ns.length := by simp at hi; omega
    rw [nh_last, ← h.1, nh_last]
    exact k
set_option maxRecDepth 20000 in
set_option maxHeartbeats 6400000 in
theorem x12tn_any {Q : Nat → Prop} (g : Nat) (L : List Int) (count : Nat) (w : World) (h : CRdQ Q w g L) (hct : count ≤ 16384) :
    Calls Try.prog 63 #[.pointer (some ⟨g, 0, none⟩), .int .i64 (count : Int), .func (.func 54) #[] #[]] w fun e w' => TnT Q L w g count e w' := by
  have hgl := h.lt
  replace h := h.both
  have hcf := Try.call54
  have HBAD : Hid (∀ (wx : World) (R : List Int), CRdQ (fun b => Q b ∧ b < w.heap.size) wx g R → w.grownBy wx (some g) → (∀ ms bss T y, NatsB ms bss → BlobsOf bss y → L = y ++ T → ms.length = count → RgtN ms → DigsN ms → False) → Hid (TnT Q L w g count (.returned (.tuple #[.slice none 0 0, .bool false])) wx)) := fun wx R hA hg hn => ⟨_, [], false, R, rfl, NHd.nil _ _, Nat.zero_le _, hA.mono (fun _ q => q.1), hg, fun e => (by cases e), fun ms bss T y h1 h2 h3 h4 h5 h6 => absurd (hn ms bss T y h1 h2 h3 h4 h5 h6) id⟩
  go_enter Try.func63, Try.ntmps63
  go_wp2_with fail
  go_loopw [8, 12] (fun v6 v7 wr => ∃ (i : Nat) (ns : List (List Int)) (R : List Int), v7 = .int .i64 i ∧ i ≤ count ∧ NHd wr w.heap.size v6 ns ∧ ns.length = i ∧ CRdQ (fun b => Q b ∧ b < w.heap.size) wr g R ∧ w.grownBy wr (some g) ∧ Hid (∃ bss y, NatsB ns bss ∧ BlobsOf bss y ∧ L = y ++ R) ∧ Hid (∀ ms bss T y, NatsB ms bss → BlobsOf bss y → L = y ++ T → ms.length = count → RgtN ms → DigsN ms → ns = ms.take i ∧ ∃ y', BlobsOf (bss.drop i) y' ∧ R = y' ++ T)) (fun _ v7 _ => count - (intOf v7).toNat)
  case atStart => exact ⟨0, [], L, rfl, Nat.zero_le _, NHd.nil _ _, rfl, h, World.grownBy.refl _ _, ⟨[], [], ⟨rfl, fun i hi => absurd hi (by simp)⟩, rfl, rfl⟩, fun ms bss T y h1 h2 h3 h4 h5 h6 => ⟨by simp, y, h2, h3⟩⟩
  case round =>
    clear h
    obtain ⟨i, ns, R, rfl, hi, hown, hnl, hA, hg, HS, HF⟩ := hrel
    by_cases hlt : i < count
    · have hlti : (i : Int) < (count : Int) := by omega
      have hsz := hg.size
      have hhd := hA.head
      go_wp2_with fail
      refine (x12nt_any g R _ hA).mono ?_
      rintro e w2 ⟨za, zl, zc, zs, ok, R2, rfl, hZ, hA2, hg2, hs2, hc2⟩
      have hgg := grown_then hg hg2
      have hown2 := hown.head hg2 hhd (fun b e => by have := (hown.own b e).2.1; omega)
      have hsz2 := hgg.size
      have HS2 : Hid (ok = true → ∃ bss y, NatsB (ns ++ [zs]) bss ∧ BlobsOf bss y ∧ L = y ++ R2) := fun e => by
        obtain ⟨bss, y, f0, f1, f2⟩ := HS.out
        obtain ⟨cd, bs, f3, f4, f5⟩ := hs2 e
        exact ⟨bss ++ [bs], y ++ (cd ++ bs), natsB_snoc f0 f5, f1.snoc f3, by rw [f2, f4]; simp⟩
      have HSTEP : Hid (∀ ms bss T y, NatsB ms bss → BlobsOf bss y → L = y ++ T → ms.length = count → RgtN ms → DigsN ms → ok = true ∧ ns ++ [zs] = ms.take (i + 1) ∧ ∃ y', BlobsOf (bss.drop (i + 1)) y' ∧ R2 = y' ++ T) := fun ms bss T y h1 h2 h3 h4 h5 h6 => by
        obtain ⟨f2, y', f3, f4⟩ := HF.out ms bss T y h1 h2 h3 h4 h5 h6
        have hil : i < ms.length := by omega
        have hib : i < bss.length := by rw [h1.1]; exact hil
        rw [List.drop_eq_getElem_cons hib] at f3
        obtain ⟨c, r, k1, k2, rfl⟩ := f3
        rw [List.append_assoc, List.append_assoc] at f4
        have hb := h1.2 i hil
        rw [show bss.getD i [] = bss[i] by simp [List.getD, hib]] at hb
        obtain ⟨q1, q2, q3⟩ := hc2 _ _ _ _ k1 hb (h5 i hil).1 (h5 i hil).2 (h6 i hil) f4
        refine ⟨q1, ?_, r, k2, q3⟩
        rw [q2, f2, List.take_add_one]
        simp [hil, List.getD]
      clear hs2 hc2 HS HF hA hg hg2 hown hhd
      cases ok with
      | false =>
        have HE := HBAD.out w2 R2 hA2 hgg (fun ms bss T y h1 h2 h3 h4 h5 h6 => by cases (HSTEP.out ms bss T y h1 h2 h3 h4 h5 h6).1)
        clear HBAD hA2 hgg hown2 HSTEP HS2 hZ
        go_wp2_with fail
        first | exact HE.out | (go_ret2; exact HE.out)
      | true =>
        have hil : ns.length < 1000000 := by omega
        have hlit := balloc w2 (.cells #[.slice za zl zc] 47)
        have hown3 := hown2.below hlit
        have hZ3 := hZ.below hlit
        have hA3 := hA2.below hlit
        have hgg3 := grown_low hgg (hlit.mono hsz2)
        have HOW : Hid (NHd (w2.alloc (.cells #[.slice za zl zc] 47)) w.heap.size u8 ns) := hown3
        clear hown2 hA2 hgg hlit hZ
        go_wp2_with (at_builtin; refine wpList_appNH _ rfl _ _ 23 rfl Try.underlying23 w.heap.size _ ns rfl hown3 w2.heap.size za zl zc zs rfl ?c1 hZ3 hil ?c2 ?_)
        case c1 => simp
        case c2 => simp; omega
        intro v' w4 hown4 hg4
        have hb4 := HOW.out.low hg4 (by simp; omega)
        have hA4 := hA3.otherQ (fun _ q => q.2) hgl hb4
        have hgg4 := grown_low hgg3 hb4
        have HN : Hid ((ns ++ [zs]).length = i + 1) := by show _ = _; simp [hnl]
        have HS3 : Hid (∃ bss y, NatsB (ns ++ [zs]) bss ∧ BlobsOf bss y ∧ L = y ++ R2) := HS2.out (by first | rfl | trivial)
        have HS4 : Hid (∀ ms bss T y, NatsB ms bss → BlobsOf bss y → L = y ++ T → ms.length = count → RgtN ms → DigsN ms → ns ++ [zs] = ms.take (i + 1) ∧ ∃ y', BlobsOf (bss.drop (i + 1)) y' ∧ R2 = y' ++ T) := fun ms bss T y h1 h2 h3 h4 h5 h6 => (HSTEP.out ms bss T y h1 h2 h3 h4 h5 h6).2
        clear hown3 hA3 hgg3 HOW hg4 hb4 HSTEP HBAD HS2 hZ3
        go_wp2
        go_roundw
        case rel => exact ⟨i + 1, ns ++ [zs], R2, by go_num, by omega, hown4, HN.out, hA4, hgg4, HS3, HS4⟩
        case measure => simp [intOf]; omega
    · obtain rfl : i = count := by omega
      have HE : Hid (TnT Q L w g i (.returned (.tuple #[u8, .bool true])) wr) := ⟨_, ns, true, R, rfl, hown, by omega, hA.mono (fun _ q => q.1), hg, fun _ => ⟨hnl, HS.out⟩, fun ms bss T y h1 h2 h3 h4 h5 h6 => by
        obtain ⟨f2, y', f3, f4⟩ := HF.out ms bss T y h1 h2 h3 h4 h5 h6
        rw [List.drop_eq_nil_of_le (by rw [h1.1]; omega)] at f3
        have e : y' = [] := f3
        rw [e] at f4
        exact ⟨rfl, by rw [f2, List.take_of_length_le (by omega)], f4⟩⟩
      obtain ⟨oa, oc, rfl, -, -⟩ := hown.row
      clear hown HF hA hg HBAD HS
      go_wp2_with fail
      first | exact HE.out | (go_ret2; exact HE.out)
/-- A list of natural numbers is read. -/
def LnT (Q : Nat → Prop) (L : List Int) (w : World) (g : Nat) (e : Ending) (w' : World) : Prop :=
  ∃ v ns ok R, e = .returned (.tuple #[v, .bool ok]) ∧ NHd w' w.heap.size v ns ∧ ns.length ≤ 16384 ∧ CRdQ Q w' g R ∧ w.grownBy w' (some g) ∧ (ok = true → ∃ bss y, NatsB ns bss ∧ IsBlobs bss y ∧ L = y ++ R) ∧
    ∀ ms bss T y, NatsB ms bss → IsBlobs bss y → L = y ++ T → ms.length ≤ 16384 → RgtN ms → DigsN ms → ok = true ∧ ns = ms ∧ R = T
theorem NHd.base {w : World} {b b' : Nat} {v : Value} {ns : List (List Int)} (h : NHd w b v ns) (hb : b' ≤ b) : NHd w b' v ns := by
  rcases h with h | ⟨q, cap, cur, h1, h2, h3⟩
  · exact .inl h
  · exact .inr ⟨q, cap, cur, h1, Nat.le_trans hb h2, h3⟩
set_option maxRecDepth 20000 in
set_option maxHeartbeats 3200000 in
theorem x12lnr_any {Q : Nat → Prop} (g : Nat) (L : List Int) (w : World) (h : CRdQ Q w g L) :
    Calls Try.prog 53 #[.pointer (some ⟨g, 0, none⟩), .func (.func 54) #[] #[]] w fun e w' => LnT Q L w g e w' := by
  go_enter Try.func53, Try.ntmps53
  go_wp2_with fail
  refine (c9rnum_any g L 16384 _ h).mono ?_
  rintro e w1 ⟨n, e1, L1, rfl, hr1, hA1, hg1⟩
  have hn := hr1.most
  have hsz1 := hg1.size
  have HR1 : Hid (ResNum L 16384 n e1 L1) := hr1
  clear h hr1
  by_cases z1 : e1 = 0
  case neg =>
    have HB : Hid (LnT Q L w g (.returned (.tuple #[.slice none 0 0, .bool false])) w1) := ⟨_, [], false, L1, rfl, NHd.nil _ _, Nat.zero_le _, hA1, hg1, fun e => (by cases e), fun ms bss T y h0 h1 h2 h3 h4 h5 => by
      obtain ⟨c, r, k1, k2, rfl⟩ := h1
      rw [List.append_assoc] at h2
      exact absurd (HR1.out.at k1 (by rw [h0.1]; exact h3) (by have := h0.1; omega) h2).2.1 z1⟩
    have z1d : (e1 != 0) = true := by simp [z1]
    have z1e : (e1 == 0) = false := by simp [z1]
    clear hA1 hg1 HR1 z1
    go_wp2_with fail
    first | exact HB.out | (go_ret2; exact HB.out)
  subst z1
  have hwx : IntKind.i64.wrap (n : Int) = n := by simp [IntKind.wrap, IntKind.signed, IntKind.bits]; omega
  have HT := (show Hid _ from x12tn_any g L1 n w1 hA1 hn)
  clear hA1
  go_wp2_with fail
  refine Calls.mono HT.out ?_
  rintro e w2 ⟨v, ns, ok, R, rfl, k1, k3, k6, k7, k8, k9⟩
  have HE : Hid (LnT Q L w g (.returned (.tuple #[v, .bool ok])) w2) := ⟨v, ns, ok, R, rfl, k1.base hsz1, by omega, k6, grown_then hg1 k7, fun e => by
    obtain ⟨c0, f1, f2⟩ := HR1.out.sound rfl
    obtain ⟨f3, bss, y, f0, f4, f5⟩ := k8 e
    exact ⟨bss, c0 ++ y, f0, ⟨c0, y, by rw [f0.1, f3]; exact f1, f4, rfl⟩, by rw [f2, f5, List.append_assoc]⟩, fun ms bss T y h0 h1 h2 h3 h4 h5 => by
    obtain ⟨c0, r, q1, q2, rfl⟩ := h1
    rw [List.append_assoc] at h2
    obtain ⟨p1, -, p3⟩ := HR1.out.at q1 (by rw [h0.1]; exact h3) (by have := h0.1; omega) h2
    exact k9 ms bss T r h0 q2 p3 (by rw [← h0.1]; exact p1.symm) h4 h5⟩
  obtain ⟨oa, oc, rfl, -, -⟩ := k1.row
  clear HT HR1 k1 k3 k6 k7 k8 k9 hg1
  go_wp2
  go_ret2
  exact HE.out
end Go.Proofs.Ytnbdbahfekneoaa
