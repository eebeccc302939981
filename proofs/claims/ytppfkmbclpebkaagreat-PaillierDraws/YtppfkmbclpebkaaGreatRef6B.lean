/-
  Contracts of the document's Public, Encrypt, Add, Plain, Scale and Again.
-/
import Derived.Test.YtppfkmbclpebkaaGreatRef6A
namespace Go.Proofs.YtppfkmbclpebkaaGreat
open Go.RowKit

set_option maxHeartbeats 3200000 in
theorem r6encrypt_any (a b d : Option Addr) (la ca lb cb ld cd : Nat) (ns ys zs : List Int) (w : World) (h : Nums w a la ca ns) (h' : Nums w b lb cb ys) (hd : Nums w d ld cd zs) :
    Calls Tryz.prog 55 #[.slice a la ca, .slice b lb cb, .slice d ld cd] w fun e w' => ∃ a' l c ls err, e = .returned (.tuple #[.slice a' l c, .int .i64 err]) ∧ Nums w' a' l c ls ∧ Told (encF ns ys zs) (encV ns ys zs) ls err ∧ Below w.heap.size w w' := by
  have HM := (show Hid _ from r6may_any _ _ _ _ _ h)
  cases hm : pubB ns with
  | false =>
    rw [hm] at HM
    have HF : Hid (Told (encF ns ys zs) (encV ns ys zs) [] 1) := Told.bad (by unfold encF; simp [hm])
    clear h h' hd
    go_enter Tryz.func55, Tryz.ntmps55
    go_wp2_with fail
    refine Calls.mono HM.out ?_
    rintro e w1 ⟨rfl, rfl⟩
    clear HM
    go_wp2
    go_ret2
    exact ⟨none, 0, 0, [], 1, rfl, Nums.nil _, HF.out, Below.refl _ _⟩
  | true =>
    rw [hm] at HM
    obtain ⟨rn, n1, n2, n3⟩ := (pubB_iff ns).1 hm
    have hn := IsN.self h.digs rn
    have pn := hn.pos (by omega)
    have hmN : mayN (nv ns) = true := (mayN_iff _).2 ⟨n1, n2, n3⟩
    have H2 := (show Hid _ from r6plain_any _ _ _ _ _ _ _ _ _ h h' rn)
    cases h2 : plainB ns ys with
    | false =>
      rw [h2] at H2
      have HF : Hid (Told (encF ns ys zs) (encV ns ys zs) [] 10) := Told.bad (by unfold encF; simp [hm, h2])
      clear h h' hd
      go_enter Tryz.func55, Tryz.ntmps55
      go_wp2_with fail
      refine Calls.mono HM.out ?_
      rintro e w1 ⟨rfl, rfl⟩
      go_wp2_with fail
      refine Calls.mono H2.out ?_
      rintro e w2 ⟨rfl, hb2⟩
      clear HM H2
      go_wp2
      go_ret2
      exact ⟨none, 0, 0, [], 10, rfl, Nums.nil _, HF.out, hb2⟩
    | true =>
      rw [h2] at H2
      cases h3 : unitB zs ns (nv ns) with
      | false =>
        have HF : Hid (Told (encF ns ys zs) (encV ns ys zs) [] 1) := Told.bad (by unfold encF; simp [hm, h2, h3])
        go_enter Tryz.func55, Tryz.ntmps55
        go_wp2_with fail
        refine Calls.mono HM.out ?_
        rintro e w1 ⟨rfl, rfl⟩
        go_wp2_with fail
        refine Calls.mono H2.out ?_
        rintro e w2 ⟨rfl, hb2⟩
        have k := h.below hb2
        have k' := h'.below hb2
        have kd := hd.below hb2
        have H3 := (show Hid _ from r6unit_any _ _ _ _ _ _ _ _ _ _ _ _ _ kd k k rn pn rn)
        rw [h3] at H3
        clear h h' hd HM H2
        go_wp2_with fail
        refine Calls.mono H3.out ?_
        rintro e w3 ⟨rfl, hb3⟩
        have hB3 := hb2.trans (hb3.mono hb2.size)
        clear H3
        go_wp2
        go_ret2
        exact ⟨none, 0, 0, [], 1, rfl, Nums.nil _, HF.out, hB3⟩
      | true =>
        have HF : Hid (encF ns ys zs = none) := by show _ = _; unfold encF; simp [hm, h2, h3]
        go_enter Tryz.func55, Tryz.ntmps55
        go_wp2_with fail
        refine Calls.mono HM.out ?_
        rintro e w1 ⟨rfl, rfl⟩
        go_wp2_with fail
        refine Calls.mono H2.out ?_
        rintro e w2 ⟨rfl, hb2⟩
        have k := h.below hb2
        have k' := h'.below hb2
        have kd := hd.below hb2
        have H3 := (show Hid _ from r6unit_any _ _ _ _ _ _ _ _ _ _ _ _ _ kd k k rn pn rn)
        rw [h3] at H3
        clear h h' hd HM H2
        go_wp2_with fail
        refine Calls.mono H3.out ?_
        rintro e w3 ⟨rfl, hb3⟩
        have hB3 := hb2.trans (hb3.mono hb2.size)
        clear H3
        have m := k.below hb3
        have m' := k'.below hb3
        have md := kd.below hb3
        clear k k' kd hb2 hb3
        obtain ⟨ry, y1⟩ := (plainB_iff ns ys).1 h2
        obtain ⟨rz, z1, z2, z3⟩ := (unitB_iff zs ns _).1 h3
        have hy := IsN.self m'.digs ry
        have hz := IsN.self md.digs rz
        go_wp2_with fail
        refine (r6shown_any _ _ _ _ _ _ _ _ _ _ _ m m' hn hy n3 y1).mono ?_
        rintro e w4 ⟨xa, xl, xc, xs, rfl, hX, hx, hb4⟩
        have hB4 := hB3.trans (hb4.mono hB3.size)
        have p := m.below hb4
        have pd := md.below hb4
        clear m m' md hB3 hb4
        go_wp2_with fail
        refine (r6hidden_any _ _ _ _ _ _ _ _ _ _ _ p pd hn hz hmN z2).mono ?_
        rintro e w5 ⟨ua, ul, uc, us, rfl, hU, hu, hb5⟩
        have hB5 := hB4.trans (hb5.mono hB4.size)
        have q := p.below hb5
        have hX5 := hX.below hb5
        clear p pd hX hB4 hb5
        go_wp2_with fail
        refine (r6square_any _ _ _ _ _ _ q hn n3).mono ?_
        rintro e w6 ⟨sa, sl, sc, ss, rfl, hS, hs, hb6⟩
        have hB6 := hB5.trans (hb6.mono hB5.size)
        have hX6 := hX5.below hb6
        have hU6 := hU.below hb6
        clear q hX5 hU hB5 hb6
        have hxs : 1 + nv ns * nv ys < nv ns * nv ns := by
          rcases shown_bd y1 with e | e
          · exact e
          · omega
        have hus : nv zs ^ nv ns % (nv ns * nv ns) < nv ns * nv ns := Nat.mod_lt _ (Nat.mul_pos (by omega) (by omega))
        have HT := (show Hid _ from mtimes_any _ _ _ _ _ _ _ _ _ _ _ _ _ hX6 hU6 hS (sq_mod hmN hs) (below_mk hx.2.1 (by rw [hx.2.2, hs.2.2]; omega)) (below_mk hu.2.1 (by rw [hu.2.2, hs.2.2]; omega)))
        rw [hx.2.2, hu.2.2, hs.2.2, ← Int.natCast_mul, ← Int.natCast_emod, Nat.mul_mod_mod] at HT
        clear hX6 hU6 hS hx hu hs hxs hus
        go_wp2_with fail
        refine Calls.mono HT.out ?_
        rintro e w7 ⟨ta, tl, tc, ts, rfl, hR, tb, tv, hb7⟩
        have hB7 := hB6.trans (hb7.mono hB6.size)
        have HN : Hid (Told (encF ns ys zs) (encV ns ys zs) ts 0) := Told.good HF.out ⟨hR.digs, (below_parts tb).1, tv⟩
        clear HT tb tv hB6 hb7
        go_wp2
        go_ret2
        exact ⟨ta, tl, tc, ts, 0, rfl, hR, HN.out, hB7⟩
set_option maxHeartbeats 3200000 in
theorem r6plain2_any (a b d : Option Addr) (la ca lb cb ld cd : Nat) (ns ys zs : List Int) (w : World) (h : Nums w a la ca ns) (h' : Nums w b lb cb ys) (hd : Nums w d ld cd zs) :
    Calls Tryz.prog 26 #[.slice a la ca, .slice b lb cb, .slice d ld cd] w fun e w' => ∃ a' l c ls err, e = .returned (.tuple #[.slice a' l c, .int .i64 err]) ∧ Nums w' a' l c ls ∧ Told (plainF ns ys zs) (plainV ns ys zs) ls err ∧ Below w.heap.size w w' := by
  have HM := (show Hid _ from r6may_any _ _ _ _ _ h)
  cases hm : pubB ns with
  | false =>
    rw [hm] at HM
    have HF : Hid (Told (plainF ns ys zs) (plainV ns ys zs) [] 1) := Told.bad (by unfold plainF; simp [hm])
    clear h h' hd
    go_enter Tryz.func26, Tryz.ntmps26
    go_wp2_with fail
    refine Calls.mono HM.out ?_
    rintro e w1 ⟨rfl, rfl⟩
    clear HM
    go_wp2
    go_ret2
    exact ⟨none, 0, 0, [], 1, rfl, Nums.nil _, HF.out, Below.refl _ _⟩
  | true =>
    rw [hm] at HM
    obtain ⟨rn, n1, n2, n3⟩ := (pubB_iff ns).1 hm
    have hn := IsN.self h.digs rn
    have pn := hn.pos (by omega)
    have hmN : mayN (nv ns) = true := (mayN_iff _).2 ⟨n1, n2, n3⟩
    have H2 := (show Hid _ from r6valid_any _ _ _ _ _ _ _ _ _ h h')
    cases h2 : validB ns ys with
    | false =>
      rw [h2] at H2
      have HF : Hid (Told (plainF ns ys zs) (plainV ns ys zs) [] 11) := Told.bad (by unfold plainF; simp [hm, h2])
      clear h h' hd
      go_enter Tryz.func26, Tryz.ntmps26
      go_wp2_with fail
      refine Calls.mono HM.out ?_
      rintro e w1 ⟨rfl, rfl⟩
      go_wp2_with fail
      refine Calls.mono H2.out ?_
      rintro e w2 ⟨rfl, hb2⟩
      clear HM H2
      go_wp2
      go_ret2
      exact ⟨none, 0, 0, [], 11, rfl, Nums.nil _, HF.out, hb2⟩
    | true =>
      rw [h2] at H2
      cases h3 : plainB ns zs with
      | false =>
        have HF : Hid (Told (plainF ns ys zs) (plainV ns ys zs) [] 10) := Told.bad (by unfold plainF; simp [hm, h2, h3])
        go_enter Tryz.func26, Tryz.ntmps26
        go_wp2_with fail
        refine Calls.mono HM.out ?_
        rintro e w1 ⟨rfl, rfl⟩
        go_wp2_with fail
        refine Calls.mono H2.out ?_
        rintro e w2 ⟨rfl, hb2⟩
        have k := h.below hb2
        have k' := h'.below hb2
        have kd := hd.below hb2
        have H3 := (show Hid _ from r6plain_any _ _ _ _ _ _ _ _ _ k kd rn)
        rw [h3] at H3
        clear h h' hd HM H2
        go_wp2_with fail
        refine Calls.mono H3.out ?_
        rintro e w3 ⟨rfl, hb3⟩
        have hB3 := hb2.trans (hb3.mono hb2.size)
        clear H3
        go_wp2
        go_ret2
        exact ⟨none, 0, 0, [], 10, rfl, Nums.nil _, HF.out, hB3⟩
      | true =>
        have HF : Hid (plainF ns ys zs = none) := by show _ = _; unfold plainF; simp [hm, h2, h3]
        go_enter Tryz.func26, Tryz.ntmps26
        go_wp2_with fail
        refine Calls.mono HM.out ?_
        rintro e w1 ⟨rfl, rfl⟩
        go_wp2_with fail
        refine Calls.mono H2.out ?_
        rintro e w2 ⟨rfl, hb2⟩
        have k := h.below hb2
        have k' := h'.below hb2
        have kd := hd.below hb2
        have H3 := (show Hid _ from r6plain_any _ _ _ _ _ _ _ _ _ k kd rn)
        rw [h3] at H3
        clear h h' hd HM H2
        go_wp2_with fail
        refine Calls.mono H3.out ?_
        rintro e w3 ⟨rfl, hb3⟩
        have hB3 := hb2.trans (hb3.mono hb2.size)
        clear H3
        have m := k.below hb3
        have m' := k'.below hb3
        have md := kd.below hb3
        clear k k' kd hb2 hb3
        obtain ⟨-, ry, y0, y1, y2⟩ := (validB_iff ns ys).1 h2
        obtain ⟨rz, z1⟩ := (plainB_iff ns zs).1 h3
        have hy := IsN.self m'.digs ry
        have hz := IsN.self md.digs rz
        go_wp2_with fail
        refine (r6shown_any _ _ _ _ _ _ _ _ _ _ _ m md hn hz n3 z1).mono ?_
        rintro e w4 ⟨xa, xl, xc, xs, rfl, hX, hx, hb4⟩
        have hB4 := hB3.trans (hb4.mono hB3.size)
        have p := m.below hb4
        have p' := m'.below hb4
        clear m m' md hB3 hb4
        go_wp2_with fail
        refine (r6square_any _ _ _ _ _ _ p hn n3).mono ?_
        rintro e w6 ⟨sa, sl, sc, ss, rfl, hS, hs, hb6⟩
        have hB6 := hB4.trans (hb6.mono hB4.size)
        have hX6 := hX.below hb6
        have q' := p'.below hb6
        clear p p' hX hB4 hb6
        have hxs : 1 + nv ns * nv zs < nv ns * nv ns := by
          rcases shown_bd z1 with e | e
          · exact e
          · omega
        have HT := (show Hid _ from mtimes_any _ _ _ _ _ _ _ _ _ _ _ _ _ q' hX6 hS (sq_mod hmN hs) (below_mk ry (by rw [hy.2.2, hs.2.2]; omega)) (below_mk hx.2.1 (by rw [hx.2.2, hs.2.2]; omega)))
        rw [hx.2.2, hy.2.2, hs.2.2, ← Int.natCast_mul, ← Int.natCast_emod] at HT
        clear hX6 q' hS hx hs hxs
        go_wp2_with fail
        refine Calls.mono HT.out ?_
        rintro e w7 ⟨ta, tl, tc, ts, rfl, hR, tb, tv, hb7⟩
        have hB7 := hB6.trans (hb7.mono hB6.size)
        have HN : Hid (Told (plainF ns ys zs) (plainV ns ys zs) ts 0) := Told.good HF.out ⟨hR.digs, (below_parts tb).1, tv⟩
        clear HT tb tv hB6 hb7
        go_wp2
        go_ret2
        exact ⟨ta, tl, tc, ts, 0, rfl, hR, HN.out, hB7⟩
set_option maxHeartbeats 3200000 in
theorem r6scale_any (a b d : Option Addr) (la ca lb cb ld cd : Nat) (ns ys zs : List Int) (w : World) (h : Nums w a la ca ns) (h' : Nums w b lb cb ys) (hd : Nums w d ld cd zs) :
    Calls Tryz.prog 28 #[.slice a la ca, .slice b lb cb, .slice d ld cd] w fun e w' => ∃ a' l c ls err, e = .returned (.tuple #[.slice a' l c, .int .i64 err]) ∧ Nums w' a' l c ls ∧ Told (plainF ns ys zs) (scaleV ns ys zs) ls err ∧ Below w.heap.size w w' := by
  have HM := (show Hid _ from r6may_any _ _ _ _ _ h)
  cases hm : pubB ns with
  | false =>
    rw [hm] at HM
    have HF : Hid (Told (plainF ns ys zs) (scaleV ns ys zs) [] 1) := Told.bad (by unfold plainF; simp [hm])
    clear h h' hd
    go_enter Tryz.func28, Tryz.ntmps28
    go_wp2_with fail
    refine Calls.mono HM.out ?_
    rintro e w1 ⟨rfl, rfl⟩
    clear HM
    go_wp2
    go_ret2
    exact ⟨none, 0, 0, [], 1, rfl, Nums.nil _, HF.out, Below.refl _ _⟩
  | true =>
    rw [hm] at HM
    obtain ⟨rn, n1, n2, n3⟩ := (pubB_iff ns).1 hm
    have hn := IsN.self h.digs rn
    have pn := hn.pos (by omega)
    have hmN : mayN (nv ns) = true := (mayN_iff _).2 ⟨n1, n2, n3⟩
    have H2 := (show Hid _ from r6valid_any _ _ _ _ _ _ _ _ _ h h')
    cases h2 : validB ns ys with
    | false =>
      rw [h2] at H2
      have HF : Hid (Told (plainF ns ys zs) (scaleV ns ys zs) [] 11) := Told.bad (by unfold plainF; simp [hm, h2])
      clear h h' hd
      go_enter Tryz.func28, Tryz.ntmps28
      go_wp2_with fail
      refine Calls.mono HM.out ?_
      rintro e w1 ⟨rfl, rfl⟩
      go_wp2_with fail
      refine Calls.mono H2.out ?_
      rintro e w2 ⟨rfl, hb2⟩
      clear HM H2
      go_wp2
      go_ret2
      exact ⟨none, 0, 0, [], 11, rfl, Nums.nil _, HF.out, hb2⟩
    | true =>
      rw [h2] at H2
      cases h3 : plainB ns zs with
      | false =>
        have HF : Hid (Told (plainF ns ys zs) (scaleV ns ys zs) [] 10) := Told.bad (by unfold plainF; simp [hm, h2, h3])
        go_enter Tryz.func28, Tryz.ntmps28
        go_wp2_with fail
        refine Calls.mono HM.out ?_
        rintro e w1 ⟨rfl, rfl⟩
        go_wp2_with fail
        refine Calls.mono H2.out ?_
        rintro e w2 ⟨rfl, hb2⟩
        have k := h.below hb2
        have k' := h'.below hb2
        have kd := hd.below hb2
        have H3 := (show Hid _ from r6plain_any _ _ _ _ _ _ _ _ _ k kd rn)
        rw [h3] at H3
        clear h h' hd HM H2
        go_wp2_with fail
        refine Calls.mono H3.out ?_
        rintro e w3 ⟨rfl, hb3⟩
        have hB3 := hb2.trans (hb3.mono hb2.size)
        clear H3
        go_wp2
        go_ret2
        exact ⟨none, 0, 0, [], 10, rfl, Nums.nil _, HF.out, hB3⟩
      | true =>
        have HF : Hid (plainF ns ys zs = none) := by show _ = _; unfold plainF; simp [hm, h2, h3]
        go_enter Tryz.func28, Tryz.ntmps28
        go_wp2_with fail
        refine Calls.mono HM.out ?_
        rintro e w1 ⟨rfl, rfl⟩
        go_wp2_with fail
        refine Calls.mono H2.out ?_
        rintro e w2 ⟨rfl, hb2⟩
        have k := h.below hb2
        have k' := h'.below hb2
        have kd := hd.below hb2
        have H3 := (show Hid _ from r6plain_any _ _ _ _ _ _ _ _ _ k kd rn)
        rw [h3] at H3
        clear h h' hd HM H2
        go_wp2_with fail
        refine Calls.mono H3.out ?_
        rintro e w3 ⟨rfl, hb3⟩
        have hB3 := hb2.trans (hb3.mono hb2.size)
        clear H3
        have m := k.below hb3
        have m' := k'.below hb3
        have md := kd.below hb3
        clear k k' kd hb2 hb3
        obtain ⟨-, ry, y0, y1, y2⟩ := (validB_iff ns ys).1 h2
        obtain ⟨rz, z1⟩ := (plainB_iff ns zs).1 h3
        have hy := IsN.self m'.digs ry
        have hz := IsN.self md.digs rz
        have hlz : zs.length ≤ 2 := hz.len (by
          have e : (18446744073709551616 : Int) ^ 2 = 340282366920938463463374607431768211456 := by decide
          omega)
        have hll := md.hlen
        go_wp2_with fail
        refine (r6square_any _ _ _ _ _ _ m hn n3).mono ?_
        rintro e w6 ⟨sa, sl, sc, ss, rfl, hS, hs, hb6⟩
        have hB6 := hB3.trans (hb6.mono hB3.size)
        have q' := m'.below hb6
        have qd := md.below hb6
        clear m m' md hB3 hb6
        have HT := (show Hid _ from power2_any _ _ _ _ _ _ _ _ _ _ _ _ (nv zs) _ q' qd hS (sq_mod hmN hs) (below_mk ry (by rw [hy.2.2, hs.2.2]; omega)) rz (by omega) hz.2.2)
        rw [hy.2.2, hs.2.2, ← Int.natCast_pow, ← Int.natCast_emod] at HT
        clear q' qd hS hs
        go_wp2_with fail
        refine Calls.mono HT.out ?_
        rintro e w7 ⟨ta, tl, tc, ts, rfl, hR, tb, tv, hb7⟩
        have hB7 := hB6.trans (hb7.mono hB6.size)
        have HN : Hid (Told (plainF ns ys zs) (scaleV ns ys zs) ts 0) := Told.good HF.out ⟨hR.digs, (below_parts tb).1, tv⟩
        clear HT tb tv hB6 hb7
        go_wp2
        go_ret2
        exact ⟨ta, tl, tc, ts, 0, rfl, hR, HN.out, hB7⟩
set_option maxHeartbeats 3200000 in
theorem r6again_any (a b d : Option Addr) (la ca lb cb ld cd : Nat) (ns ys zs : List Int) (w : World) (h : Nums w a la ca ns) (h' : Nums w b lb cb ys) (hd : Nums w d ld cd zs) :
    Calls Tryz.prog 30 #[.slice a la ca, .slice b lb cb, .slice d ld cd] w fun e w' => ∃ a' l c ls err, e = .returned (.tuple #[.slice a' l c, .int .i64 err]) ∧ Nums w' a' l c ls ∧ Told (againF ns ys zs) (againV ns ys zs) ls err ∧ Below w.heap.size w w' := by
  have HM := (show Hid _ from r6may_any _ _ _ _ _ h)
  cases hm : pubB ns with
  | false =>
    rw [hm] at HM
    have HF : Hid (Told (againF ns ys zs) (againV ns ys zs) [] 1) := Told.bad (by unfold againF; simp [hm])
    clear h h' hd
    go_enter Tryz.func30, Tryz.ntmps30
    go_wp2_with fail
    refine Calls.mono HM.out ?_
    rintro e w1 ⟨rfl, rfl⟩
    clear HM
    go_wp2
    go_ret2
    exact ⟨none, 0, 0, [], 1, rfl, Nums.nil _, HF.out, Below.refl _ _⟩
  | true =>
    rw [hm] at HM
    obtain ⟨rn, n1, n2, n3⟩ := (pubB_iff ns).1 hm
    have hn := IsN.self h.digs rn
    have pn := hn.pos (by omega)
    have hmN : mayN (nv ns) = true := (mayN_iff _).2 ⟨n1, n2, n3⟩
    have H2 := (show Hid _ from r6valid_any _ _ _ _ _ _ _ _ _ h h')
    cases h2 : validB ns ys with
    | false =>
      rw [h2] at H2
      have HF : Hid (Told (againF ns ys zs) (againV ns ys zs) [] 11) := Told.bad (by unfold againF; simp [hm, h2])
      clear h h' hd
      go_enter Tryz.func30, Tryz.ntmps30
      go_wp2_with fail
      refine Calls.mono HM.out ?_
      rintro e w1 ⟨rfl, rfl⟩
      go_wp2_with fail
      refine Calls.mono H2.out ?_
      rintro e w2 ⟨rfl, hb2⟩
      clear HM H2
      go_wp2
      go_ret2
      exact ⟨none, 0, 0, [], 11, rfl, Nums.nil _, HF.out, hb2⟩
    | true =>
      rw [h2] at H2
      cases h3 : unitB zs ns (nv ns) with
      | false =>
        have HF : Hid (Told (againF ns ys zs) (againV ns ys zs) [] 1) := Told.bad (by unfold againF; simp [hm, h2, h3])
        go_enter Tryz.func30, Tryz.ntmps30
        go_wp2_with fail
        refine Calls.mono HM.out ?_
        rintro e w1 ⟨rfl, rfl⟩
        go_wp2_with fail
        refine Calls.mono H2.out ?_
        rintro e w2 ⟨rfl, hb2⟩
        have k := h.below hb2
        have k' := h'.below hb2
        have kd := hd.below hb2
        have H3 := (show Hid _ from r6unit_any _ _ _ _ _ _ _ _ _ _ _ _ _ kd k k rn pn rn)
        rw [h3] at H3
        clear h h' hd HM H2
        go_wp2_with fail
        refine Calls.mono H3.out ?_
        rintro e w3 ⟨rfl, hb3⟩
        have hB3 := hb2.trans (hb3.mono hb2.size)
        clear H3
        go_wp2
        go_ret2
        exact ⟨none, 0, 0, [], 1, rfl, Nums.nil _, HF.out, hB3⟩
      | true =>
        have HF : Hid (againF ns ys zs = none) := by show _ = _; unfold againF; simp [hm, h2, h3]
        go_enter Tryz.func30, Tryz.ntmps30
        go_wp2_with fail
        refine Calls.mono HM.out ?_
        rintro e w1 ⟨rfl, rfl⟩
        go_wp2_with fail
        refine Calls.mono H2.out ?_
        rintro e w2 ⟨rfl, hb2⟩
        have k := h.below hb2
        have k' := h'.below hb2
        have kd := hd.below hb2
        have H3 := (show Hid _ from r6unit_any _ _ _ _ _ _ _ _ _ _ _ _ _ kd k k rn pn rn)
        rw [h3] at H3
        clear h h' hd HM H2
        go_wp2_with fail
        refine Calls.mono H3.out ?_
        rintro e w3 ⟨rfl, hb3⟩
        have hB3 := hb2.trans (hb3.mono hb2.size)
        clear H3
        have m := k.below hb3
        have m' := k'.below hb3
        have md := kd.below hb3
        clear k k' kd hb2 hb3
        obtain ⟨-, ry, y0, y1, y2⟩ := (validB_iff ns ys).1 h2
        obtain ⟨rz, z1, z2, z3⟩ := (unitB_iff zs ns _).1 h3
        have hy := IsN.self m'.digs ry
        have hz := IsN.self md.digs rz
        go_wp2_with fail
        refine (r6hidden_any _ _ _ _ _ _ _ _ _ _ _ m md hn hz hmN z2).mono ?_
        rintro e w5 ⟨ua, ul, uc, us, rfl, hU, hu, hb5⟩
        have hB5 := hB3.trans (hb5.mono hB3.size)
        have p := m.below hb5
        have p' := m'.below hb5
        clear m m' md hB3 hb5
        go_wp2_with fail
        refine (r6square_any _ _ _ _ _ _ p hn n3).mono ?_
        rintro e w6 ⟨sa, sl, sc, ss, rfl, hS, hs, hb6⟩
        have hB6 := hB5.trans (hb6.mono hB5.size)
        have q' := p'.below hb6
        have hU6 := hU.below hb6
        clear p p' hU hB5 hb6
        have hus : nv zs ^ nv ns % (nv ns * nv ns) < nv ns * nv ns := Nat.mod_lt _ (Nat.mul_pos (by omega) (by omega))
        have HT := (show Hid _ from mtimes_any _ _ _ _ _ _ _ _ _ _ _ _ _ q' hU6 hS (sq_mod hmN hs) (below_mk ry (by rw [hy.2.2, hs.2.2]; omega)) (below_mk hu.2.1 (by rw [hu.2.2, hs.2.2]; omega)))
        rw [hy.2.2, hu.2.2, hs.2.2, ← Int.natCast_mul, ← Int.natCast_emod, Nat.mul_mod_mod] at HT
        clear hU6 q' hS hu hs hus
        go_wp2_with fail
        refine Calls.mono HT.out ?_
        rintro e w7 ⟨ta, tl, tc, ts, rfl, hR, tb, tv, hb7⟩
        have hB7 := hB6.trans (hb7.mono hB6.size)
        have HN : Hid (Told (againF ns ys zs) (againV ns ys zs) ts 0) := Told.good HF.out ⟨hR.digs, (below_parts tb).1, tv⟩
        clear HT tb tv hB6 hb7
        go_wp2
        go_ret2
        exact ⟨ta, tl, tc, ts, 0, rfl, hR, HN.out, hB7⟩
set_option maxHeartbeats 3200000 in
theorem r6add_any (a b d : Option Addr) (la ca lb cb ld cd : Nat) (ns ys zs : List Int) (w : World) (h : Nums w a la ca ns) (h' : Nums w b lb cb ys) (hd : Nums w d ld cd zs) :
    Calls Tryz.prog 24 #[.slice a la ca, .slice b lb cb, .slice d ld cd] w fun e w' => ∃ a' l c ls err, e = .returned (.tuple #[.slice a' l c, .int .i64 err]) ∧ Nums w' a' l c ls ∧ Told (addF ns ys zs) (addV ns ys zs) ls err ∧ Below w.heap.size w w' := by
  have HM := (show Hid _ from r6may_any _ _ _ _ _ h)
  cases hm : pubB ns with
  | false =>
    rw [hm] at HM
    have HF : Hid (Told (addF ns ys zs) (addV ns ys zs) [] 1) := Told.bad (by unfold addF; simp [hm])
    clear h h' hd
    go_enter Tryz.func24, Tryz.ntmps24
    go_wp2_with fail
    refine Calls.mono HM.out ?_
    rintro e w1 ⟨rfl, rfl⟩
    clear HM
    go_wp2
    go_ret2
    exact ⟨none, 0, 0, [], 1, rfl, Nums.nil _, HF.out, Below.refl _ _⟩
  | true =>
    rw [hm] at HM
    obtain ⟨rn, n1, n2, n3⟩ := (pubB_iff ns).1 hm
    have hn := IsN.self h.digs rn
    have hmN : mayN (nv ns) = true := (mayN_iff _).2 ⟨n1, n2, n3⟩
    have H2 := (show Hid _ from r6valid_any _ _ _ _ _ _ _ _ _ h h')
    go_enter Tryz.func24, Tryz.ntmps24
    go_wp2_with fail
    refine Calls.mono HM.out ?_
    rintro e w1 ⟨rfl, rfl⟩
    go_wp2_with fail
    refine Calls.mono H2.out ?_
    rintro e w2 ⟨rfl, hb2⟩
    have k := h.below hb2
    have k' := h'.below hb2
    have kd := hd.below hb2
    have H3 := (show Hid _ from r6valid_any _ _ _ _ _ _ _ _ _ k kd)
    clear h h' hd HM H2
    go_wp2_with fail
    refine Calls.mono H3.out ?_
    rintro e w3 ⟨rfl, hb3⟩
    have hB3 := hb2.trans (hb3.mono hb2.size)
    have m := k.below hb3
    have m' := k'.below hb3
    have md := kd.below hb3
    clear k k' kd hb2 hb3 H3
    cases h2 : validB ns ys with
    | false =>
      have HF : Hid (Told (addF ns ys zs) (addV ns ys zs) [] 11) := Told.bad (by unfold addF; simp [hm, h2])
      clear m m' md
      go_wp2
      go_ret2
      exact ⟨none, 0, 0, [], 11, rfl, Nums.nil _, HF.out, hB3⟩
    | true =>
      cases h3 : validB ns zs with
      | false =>
        have HF : Hid (Told (addF ns ys zs) (addV ns ys zs) [] 11) := Told.bad (by unfold addF; simp [hm, h3])
        clear m m' md
        go_wp2
        go_ret2
        exact ⟨none, 0, 0, [], 11, rfl, Nums.nil _, HF.out, hB3⟩
      | true =>
        have HF : Hid (addF ns ys zs = none) := by show _ = _; unfold addF; simp [hm, h2, h3]
        obtain ⟨-, ry, y0, y1, y2⟩ := (validB_iff ns ys).1 h2
        obtain ⟨-, rz, z0, z1, z2⟩ := (validB_iff ns zs).1 h3
        have hy := IsN.self m'.digs ry
        have hz := IsN.self md.digs rz
        go_wp2_with fail
        refine (r6square_any _ _ _ _ _ _ m hn n3).mono ?_
        rintro e w6 ⟨sa, sl, sc, ss, rfl, hS, hs, hb6⟩
        have hB6 := hB3.trans (hb6.mono hB3.size)
        have q' := m'.below hb6
        have qd := md.below hb6
        clear m m' md hB3 hb6
        have HT := (show Hid _ from mtimes_any _ _ _ _ _ _ _ _ _ _ _ _ _ q' qd hS (sq_mod hmN hs) (below_mk ry (by rw [hy.2.2, hs.2.2]; omega)) (below_mk rz (by rw [hz.2.2, hs.2.2]; omega)))
        rw [hy.2.2, hz.2.2, hs.2.2, ← Int.natCast_mul, ← Int.natCast_emod] at HT
        clear q' qd hS hs
        go_wp2_with fail
        refine Calls.mono HT.out ?_
        rintro e w7 ⟨ta, tl, tc, ts, rfl, hR, tb, tv, hb7⟩
        have hB7 := hB6.trans (hb7.mono hB6.size)
        have HN : Hid (Told (addF ns ys zs) (addV ns ys zs) ts 0) := Told.good HF.out ⟨hR.digs, (below_parts tb).1, tv⟩
        clear HT tb tv hB6 hb7
        go_wp2
        go_ret2
        exact ⟨ta, tl, tc, ts, 0, rfl, hR, HN.out, hB7⟩
end Go.Proofs.YtppfkmbclpebkaaGreat
