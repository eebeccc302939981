/-
  The region of Out's round (the program's own end of a link): one frame more is encoded and laid into the row.
  The second region of Out's round (the program's own end of a link): how many were sent is set anew.
  The program's end of a link: what Out carries along.
-/
import Derived.Test.YtnbdbahfekneoabX11R
namespace Go.Proofs.Ytnbdbahfekneoab
open Go.RowKit Go.Shelf

attribute [local go_sem] Oper.semAt_some

/-- A region of the text, also within a range over a function. -/
def regionAtR (n : Nat) : Code → Option Code
  | .region k ops b => if k = n then some (.region k ops b) else none
  | .seq a b => match regionAtR n a with
    | some c => some c
    | none => regionAtR n b
  | .cond _ a b => match regionAtR n a with
    | some c => some c
    | none => regionAtR n b
  | .block _ c => regionAtR n c
  | .loop c => regionAtR n c
  | .scope c => regionAtR n c
  | .rangeFunc _ _ a b => match regionAtR n a with
    | some c => some c
    | none => regionAtR n b
  | _ => none
def notDefer (o : Oper) : Bool := match o.op with
  | .defer _ => false
  | _ => true
theorem noDefer {ops : Array Oper} (h : ops.all notDefer = true) : ∀ (i : Nat) (o : Oper), ops[i]? = some o → ∀ c, o.op ≠ .defer c := fun i o ho c e => by
  have hm : o ∈ ops := by
    obtain ⟨hi, rfl⟩ := Array.getElem?_eq_some_iff.1 ho
    exact Array.getElem_mem hi
  have h2 := Array.all_eq_true'.1 h o hm
  unfold notDefer at h2
  rw [e] at h2
  cases h2
/-- What may have turned. -/
def Near6 (W : World) (Bo : Nat) (v : Value) (w' : World) : Prop := Only (fun b => b = Bo ∨ v.ownBlock = some b) W w'
theorem Near6.below {W w1 w2 : World} {Bo : Nat} {v : Value} (h : Near6 W Bo v w1) (hb : Below w1.heap.size w1 w2) : Near6 W Bo v w2 := Only.trans h (Only.of_below (T := fun _ => False) hb) (fun _ e => e.elim)
theorem Near6.draw {W w1 : World} {Bo : Nat} {v : Value} (h : Near6 W Bo v w1) : Near6 W Bo v w1.drew := ⟨h.os, h.tape, h.output, h.size, h.block⟩

set_option maxRecDepth 100000 in
set_option maxHeartbeats 6400000 in
theorem out_r6 (l n : Nat) (g Bx Bo x s i B : Nat) (qb qo qn qc : Nat) (p : Option Addr) (m c : Nat) (va : Option Addr) (vl vc : Nat) (f : Fr11) (fs : List Fr11) (u2 u5 u6 u7 u8 u9 u10 u11 u12 u13 u14 u15 u16 u17 u18 u19 u20 u21 u22 u23 u24 u25 u26 u27 u28 u29 u30 u31 u32 u33 u34 u35 u36 u37 u38 u39 u40 u41 u42 u43 u44 u45 u46 u47 u48 u49 u50 u51 u52 u53 u54 u55 u56 u57 u58 u59 u60 u61 : Value) (W : World) (K : Act → World → Prop)
    (hx : W.cell? ⟨Bx, 0, none⟩ = some (.pointer (some ⟨g, 0, none⟩))) (ho : W.heap[Bo]? = some (.cells #[.slice va vl vc] 36 (0, 0))) (h1 : W.cell? ⟨g, 1, none⟩ = some (.slice (some ⟨qb, qo, none⟩) qn qc)) (h2 : W.cell? ⟨g, 2, none⟩ = some (.int .i64 (s : Int))) (hq : W.cell? ⟨qb, qo + i, none⟩ = some (.slice p m c))
    (hxi : x = s + i) (hin : i < qn) (hxs : x ≤ 1099511627776)
    (n1 : Bx ≠ Bo ∧ g ≠ Bo ∧ qb ≠ Bo) (n2 : (Value.slice va vl vc).ownBlock ≠ some Bx ∧ (Value.slice va vl vc).ownBlock ≠ some g ∧ (Value.slice va vl vc).ownBlock ≠ some qb ∧ (Value.slice va vl vc).ownBlock ≠ some Bo)
    (hEn : ∀ wx : World, Below W.heap.size W wx → Calls Try.prog 23 #[.pointer (some ⟨g, 0, none⟩), .agg #[.bool true, .int .i64 (x : Int), .int .i64 0, .slice p m c]] wx fun e w' => FrT11 f wx e w')
    (hrow : RowF B W (.slice va vl vc) fs) (hB : B ≤ W.heap.size) (hBo : Bo < B) (hfs : fs.length ≤ 2147483648)
    (hK : ∀ (c11 c12 c13 c14 c15 c16 c17 c18 c19 c20 c21 c22 c23 c24 c25 c26 c27 c28 c29 : Value) (w' : World) (v' : Value), w'.heap[Bo]? = some (.cells #[v'] 36 (0, 0)) → RowF B w' v' (fs ++ [f]) → Near6 W Bo (.slice va vl vc) w' → K ⟨#[.pointer (some ⟨g, 0, none⟩), .pointer (some ⟨Bx, 0, none⟩), u2, .pointer (some ⟨Bo, 0, none⟩), .int .i64 (x : Int), u5, u6, u7, u8, u9, u10, c11, c12, c13, c14, c15, c16, c17, c18, c19, c20, c21, c22, c23, c24, c25, c26, c27, c28, c29, u30, u31, u32, u33, u34, u35, u36, u37, u38, u39, u40, u41, u42, u43, u44, u45, u46, u47, u48, u49, u50, u51, u52, u53, u54, u55, u56, u57, u58, u59, u60, u61], []⟩ w') :
    Code.wpIn (Fence.wide.inRound l) n Try.prog ((Try.f8.body.bind (regionAtR 6)).getD .skip) (Exit.then K fun _ _ _ => False) ⟨#[.pointer (some ⟨g, 0, none⟩), .pointer (some ⟨Bx, 0, none⟩), u2, .pointer (some ⟨Bo, 0, none⟩), .int .i64 (x : Int), u5, u6, u7, u8, u9, u10, u11, u12, u13, u14, u15, u16, u17, u18, u19, u20, u21, u22, u23, u24, u25, u26, u27, u28, u29, u30, u31, u32, u33, u34, u35, u36, u37, u38, u39, u40, u41, u42, u43, u44, u45, u46, u47, u48, u49, u50, u51, u52, u53, u54, u55, u56, u57, u58, u59, u60, u61], []⟩ W := by
  have hlB : Bo < W.heap.size := by omega
  have HS : Hid (∀ w' : World, Near6 W Bo (.slice va vl vc) w' → w'.cell? ⟨Bx, 0, none⟩ = some (.pointer (some ⟨g, 0, none⟩)) ∧ w'.cell? ⟨g, 1, none⟩ = some (.slice (some ⟨qb, qo, none⟩) qn qc) ∧ w'.cell? ⟨g, 2, none⟩ = some (.int .i64 (s : Int)) ∧ w'.cell? ⟨qb, qo + i, none⟩ = some (.slice p m c)) := fun w' k => by
    refine ⟨k.cell hx ?_, k.cell h1 ?_, k.cell h2 ?_, k.cell hq ?_⟩
    · exact fun e => by rcases e with e | e; exact n1.1 e; exact n2.1 e
    · exact fun e => by rcases e with e | e; exact n1.2.1 e; exact n2.2.1 e
    · exact fun e => by rcases e with e | e; exact n1.2.1 e; exact n2.2.1 e
    · exact fun e => by rcases e with e | e; exact n1.2.2 e; exact n2.2.2.1 e
  have hsub : IntKind.i64.wrap ((x : Int) - (s : Int)) = (i : Int) := by simp [IntKind.wrap, IntKind.signed, IntKind.bits]; omega
  have hsub2 : (x : Int) - (s : Int) = (i : Int) := by omega
  have hwi : IntKind.i64.wrap (i : Int) = (i : Int) := by simp [IntKind.wrap, IntKind.signed, IntKind.bits]; omega
  have hi0 : (0 : Int) ≤ (i : Int) := by omega
  have hi1 : (i : Int) < (qn : Int) := by omega
  have hS0 : Near6 W Bo (.slice va vl vc) W.drew := ⟨rfl, rfl, rfl, Nat.le_refl _, fun _ _ _ => rfl⟩
  obtain ⟨vs, hvs, hnext⟩ := hrow.own
  have HEn : Hid (∀ wx : World, Below W.heap.size W wx → Calls Try.prog 23 #[.pointer (some ⟨g, 0, none⟩), .agg #[.bool true, .int .i64 (x : Int), .int .i64 0, .slice p m c]] wx fun e w' => ∃ za zl zc, e = .returned (.slice za zl zc) ∧ Hid (Below W.heap.size W w' ∧ ∃ ys, BytG w' za zl zc ys ∧ IsFr f ys) ∧ Near6 W Bo (.slice va vl vc) w' ∧ w'.cell? ⟨Bo, 0, none⟩ = some (.slice va vl vc) ∧ ∀ o : Obj, (w'.alloc o).cell? ⟨Bo, 0, none⟩ = some (.slice va vl vc)) := fun wx hb => by
    refine (hEn wx hb).mono ?_
    rintro e w' ⟨za, zl, zc, ys, rfl, y1, y2, y3⟩
    have hb2 := bthen hb y3
    have oc : w'.cell? ⟨Bo, 0, none⟩ = some (.slice va vl vc) := bkeep hb2 (by rw [cell_of_row W Bo 0 _ _ _ ho]; rfl) rfl
    exact ⟨za, zl, zc, rfl, ⟨hb2, ys, y1.toBytG, y2⟩, Only.of_below hb2, oc, fun o => by rw [World.cell?_alloc_lt _ _ _ (World.block_lt_of_cell? _ _ oc)]; exact oc⟩
  have HNx : Hid (∀ (w2 w3 : World) (v' : Value) (za : Option Addr) (zl zc : Nat), Below W.heap.size W w2 → (∃ ys, BytG w2 za zl zc ys ∧ IsFr f ys) → w3.ownsRow 0 32 1 v' (fs.length + 1) (vs ++ [.slice za zl zc]) → (w2.alloc (.cells #[.slice za zl zc] 32)).grownBy w3 (Value.slice va vl vc).ownBlock → (v'.ownBlock = (Value.slice va vl vc).ownBlock ∨ v'.ownBlock = some (w2.alloc (.cells #[.slice za zl zc] 32)).heap.size) → Near6 W Bo (.slice va vl vc) w3 ∧ w3.heap[Bo]? = some (.cells #[.slice va vl vc] 36 (0, 0)) ∧ RowF B w3 v' (fs ++ [f]) ∧ Near6 W Bo (.slice va vl vc) (w3.setCell ⟨Bo, 0, none⟩ v') ∧ (w3.setCell ⟨Bo, 0, none⟩ v').heap[Bo]? = some (.cells #[v'] 36 (0, 0)) ∧ RowF B (w3.setCell ⟨Bo, 0, none⟩ v') v' (fs ++ [f])) := fun w2 w3 v' za zl zc hb hy hown hg hv => by
    obtain ⟨ys, y1, y2⟩ := hy
    have hb3 := bthen hb (balloc w2 (.cells #[.slice za zl zc] 32))
    have hr := hnext _ w3 v' za zl zc ys f hb3 (y1.below (balloc w2 _)) y2 hown hg hv hB
    have hn3 : Near6 W Bo (.slice va vl vc) w3 := Only.trans (Only.of_below (T := fun b => b = Bo ∨ (Value.slice va vl vc).ownBlock = some b) hb3) (Only.of_grown (T := fun b => b = Bo ∨ (Value.slice va vl vc).ownBlock = some b) hg (fun b e => .inr e)) (fun _ e => .inl e)
    have hBh : w3.heap[Bo]? = some (.cells #[.slice va vl vc] 36 (0, 0)) := (hg.block Bo (by have := hb3.size; omega) (fun e => n2.2.2.2 e.symm)).trans ((hb3.block Bo hlB).trans ho)
    have o4 : Only (fun b => b = Bo) w3 (w3.setCell ⟨Bo, 0, none⟩ v') := Only.of_grown (grown_set w3 Bo 0 v') (fun b e => by cases e; rfl)
    refine ⟨hn3, hBh, hr, Only.trans hn3 o4 (fun b e => .inl (.inl e)), ?_, hr.only o4 (fun b e => by omega) (fun b e => by rw [e]; exact IsB.not hBh (by decide))⟩
    rw [heap_setCell_same w3 Bo 0 _ _ v' hBh]
    rfl
  have HR0 : Hid (∀ w2 : World, Below W.heap.size W w2 → ∀ o : Obj, (w2.alloc o).ownsRow 0 32 1 (.slice va vl vc) fs.length vs) := fun w2 hb o => World.ownsRow.alloc (rowOwn_below hvs hb) _
  have oc0 : W.drew.cell? ⟨Bo, 0, none⟩ = some (.slice va vl vc) := by show W.cell? _ = _; rw [cell_of_row W Bo 0 _ _ _ ho]; rfl
  have HKf : Hid (∀ (c11 c12 c13 c14 c15 c16 c17 c18 c19 c20 c21 c22 c23 c24 c25 c26 c27 c28 c29 : Value) (w' : World) (v' : Value), w'.heap[Bo]? = some (.cells #[v'] 36 (0, 0)) → RowF B w' v' (fs ++ [f]) → Near6 W Bo (.slice va vl vc) w' → K ⟨#[.pointer (some ⟨g, 0, none⟩), .pointer (some ⟨Bx, 0, none⟩), u2, .pointer (some ⟨Bo, 0, none⟩), .int .i64 (x : Int), u5, u6, u7, u8, u9, u10, c11, c12, c13, c14, c15, c16, c17, c18, c19, c20, c21, c22, c23, c24, c25, c26, c27, c28, c29, u30, u31, u32, u33, u34, u35, u36, u37, u38, u39, u40, u41, u42, u43, u44, u45, u46, u47, u48, u49, u50, u51, u52, u53, u54, u55, u56, u57, u58, u59, u60, u61], []⟩ w') := hK
  have hD0 : Hid (Below W.heap.size W W.drew) := below_drewN (Below.refl _ W) 1
  clear hx h1 h2 hq hEn hrow hvs hnext hK n1 n2 ho hxi
  conv => arg 4; whnf
  dsimp only
  refine region_round (by kernel_rfl) (noDefer (by kernel_rfl)) (by rintro ⟨a, w, h⟩; exact h) ?_
  refine wpAny_of_held (S := Near6 W Bo (.slice va vl vc)) _ _ _ _ ?_
  refine' wpAnyH_take (i := 1) (oi := { dst := some 12, op := Op.load 24 (Operand.tmp 1), type := 24, pos := "out.go:17", after := #[], guard := none }) (v := _) rfl (by kernel_rfl) (by kernel_rfl) (by kernel_rfl) (fun _ _ _ h => h) (Or.inl ⟨by rfl, ?hy1⟩) hS0 ?rest1
  case hy1 =>
    intro w' hSw
    obtain ⟨q1, q2, q3, q4⟩ := HS.out w' hSw
    go_simp
    try with_reducible rfl
  simp only [Act.put, List.setIfInBounds_toArray, List.set_cons_zero, List.set_cons_succ]
  refine' wpAnyH_take (i := 2) (oi := { dst := some 13, op := Op.move (Operand.tmp 4), type := 3, pos := "out.go:17", after := #[], guard := none }) (v := _) rfl (by kernel_rfl) (by kernel_rfl) (by kernel_rfl) (fun _ _ _ h => h) (Or.inl ⟨by rfl, ?hy2⟩) hS0 ?rest2
  case hy2 =>
    intro w' hSw
    obtain ⟨q1, q2, q3, q4⟩ := HS.out w' hSw
    go_simp
    try with_reducible rfl
  simp only [Act.put, List.setIfInBounds_toArray, List.set_cons_zero, List.set_cons_succ]
  refine' wpAnyH_take (i := 3) (oi := { dst := some 14, op := Op.load 24 (Operand.tmp 1), type := 24, pos := "out.go:17", after := #[], guard := none }) (v := _) rfl (by kernel_rfl) (by kernel_rfl) (by kernel_rfl) (fun _ _ _ h => h) (Or.inl ⟨by rfl, ?hy3⟩) hS0 ?rest3
  case hy3 =>
    intro w' hSw
    obtain ⟨q1, q2, q3, q4⟩ := HS.out w' hSw
    go_simp
    try with_reducible rfl
  simp only [Act.put, List.setIfInBounds_toArray, List.set_cons_zero, List.set_cons_succ]
  refine' wpAnyH_take (i := 4) (oi := { dst := some 15, op := Op.nilCheck (Operand.tmp 14), type := 0, pos := "out.go:17", after := #[{ on := 3, ground := Ground.data }], guard := none }) (v := _) rfl (by kernel_rfl) (by kernel_rfl) (by kernel_rfl) (fun _ _ _ h => h) (Or.inl ⟨by rfl, ?hy4⟩) hS0 ?rest4
  case hy4 =>
    intro w' hSw
    obtain ⟨q1, q2, q3, q4⟩ := HS.out w' hSw
    go_simp
    try with_reducible rfl
  simp only [Act.put, List.setIfInBounds_toArray, List.set_cons_zero, List.set_cons_succ]
  refine' wpAnyH_take (i := 5) (oi := { dst := some 16, op := Op.fieldAddr 46 (Operand.tmp 15) 1, type := 0, pos := "out.go:17", after := #[{ on := 4, ground := Ground.data }], guard := none }) (v := _) rfl (by kernel_rfl) (by kernel_rfl) (by kernel_rfl) (fun _ _ _ h => h) (Or.inl ⟨by rfl, ?hy5⟩) hS0 ?rest5
  case hy5 =>
    intro w' hSw
    obtain ⟨q1, q2, q3, q4⟩ := HS.out w' hSw
    go_simp
    try with_reducible rfl
  simp only [Act.put, List.setIfInBounds_toArray, List.set_cons_zero, List.set_cons_succ]
  refine' wpAnyH_take (i := 6) (oi := { dst := some 17, op := Op.load 36 (Operand.tmp 16), type := 36, pos := "out.go:17", after := #[{ on := 5, ground := Ground.data }], guard := none }) (v := _) rfl (by kernel_rfl) (by kernel_rfl) (by kernel_rfl) (fun _ _ _ h => h) (Or.inl ⟨by rfl, ?hy6⟩) hS0 ?rest6
  case hy6 =>
    intro w' hSw
    obtain ⟨q1, q2, q3, q4⟩ := HS.out w' hSw
    go_simp
    try with_reducible rfl
  simp only [Act.put, List.setIfInBounds_toArray, List.set_cons_zero, List.set_cons_succ]
  refine' wpAnyH_take (i := 7) (oi := { dst := some 18, op := Op.move (Operand.tmp 4), type := 3, pos := "out.go:17", after := #[], guard := none }) (v := _) rfl (by kernel_rfl) (by kernel_rfl) (by kernel_rfl) (fun _ _ _ h => h) (Or.inl ⟨by rfl, ?hy7⟩) hS0 ?rest7
  case hy7 =>
    intro w' hSw
    obtain ⟨q1, q2, q3, q4⟩ := HS.out w' hSw
    go_simp
    try with_reducible rfl
  simp only [Act.put, List.setIfInBounds_toArray, List.set_cons_zero, List.set_cons_succ]
  refine' wpAnyH_take (i := 8) (oi := { dst := some 19, op := Op.load 24 (Operand.tmp 1), type := 24, pos := "out.go:17", after := #[], guard := none }) (v := _) rfl (by kernel_rfl) (by kernel_rfl) (by kernel_rfl) (fun _ _ _ h => h) (Or.inl ⟨by rfl, ?hy8⟩) hS0 ?rest8
  case hy8 =>
    intro w' hSw
    obtain ⟨q1, q2, q3, q4⟩ := HS.out w' hSw
    go_simp
    try with_reducible rfl
  simp only [Act.put, List.setIfInBounds_toArray, List.set_cons_zero, List.set_cons_succ]
  refine' wpAnyH_take (i := 9) (oi := { dst := some 20, op := Op.nilCheck (Operand.tmp 19), type := 0, pos := "out.go:17", after := #[{ on := 8, ground := Ground.data }], guard := none }) (v := _) rfl (by kernel_rfl) (by kernel_rfl) (by kernel_rfl) (fun _ _ _ h => h) (Or.inl ⟨by rfl, ?hy9⟩) hS0 ?rest9
  case hy9 =>
    intro w' hSw
    obtain ⟨q1, q2, q3, q4⟩ := HS.out w' hSw
    go_simp
    try with_reducible rfl
  simp only [Act.put, List.setIfInBounds_toArray, List.set_cons_zero, List.set_cons_succ]
  refine' wpAnyH_take (i := 10) (oi := { dst := some 21, op := Op.fieldAddr 46 (Operand.tmp 20) 2, type := 0, pos := "out.go:17", after := #[{ on := 9, ground := Ground.data }], guard := none }) (v := _) rfl (by kernel_rfl) (by kernel_rfl) (by kernel_rfl) (fun _ _ _ h => h) (Or.inl ⟨by rfl, ?hy10⟩) hS0 ?rest10
  case hy10 =>
    intro w' hSw
    obtain ⟨q1, q2, q3, q4⟩ := HS.out w' hSw
    go_simp
    try with_reducible rfl
  simp only [Act.put, List.setIfInBounds_toArray, List.set_cons_zero, List.set_cons_succ]
  refine' wpAnyH_take (i := 11) (oi := { dst := some 22, op := Op.load 3 (Operand.tmp 21), type := 3, pos := "out.go:17", after := #[{ on := 10, ground := Ground.data }], guard := none }) (v := _) rfl (by kernel_rfl) (by kernel_rfl) (by kernel_rfl) (fun _ _ _ h => h) (Or.inl ⟨by rfl, ?hy11⟩) hS0 ?rest11
  case hy11 =>
    intro w' hSw
    obtain ⟨q1, q2, q3, q4⟩ := HS.out w' hSw
    go_simp
    try with_reducible rfl
  simp only [Act.put, List.setIfInBounds_toArray, List.set_cons_zero, List.set_cons_succ]
  refine' wpAnyH_take (i := 12) (oi := { dst := some 23, op := Op.binOp BinOp.sub 3 (Operand.tmp 18) (Operand.tmp 22) 3, type := 3, pos := "out.go:17", after := #[{ on := 7, ground := Ground.data }, { on := 11, ground := Ground.data }], guard := none }) (v := _) rfl (by kernel_rfl) (by kernel_rfl) (by kernel_rfl) (fun _ _ _ h => h) (Or.inl ⟨by rfl, ?hy12⟩) hS0 ?rest12
  case hy12 =>
    intro w' hSw
    obtain ⟨q1, q2, q3, q4⟩ := HS.out w' hSw
    go_simp
    try with_reducible rfl
  simp only [Act.put, List.setIfInBounds_toArray, List.set_cons_zero, List.set_cons_succ]
  refine' wpAnyH_take (i := 13) (oi := { dst := some 24, op := Op.indexAddr 36 (Operand.tmp 17) (Operand.tmp 23), type := 0, pos := "out.go:17", after := #[{ on := 6, ground := Ground.data }, { on := 12, ground := Ground.data }], guard := none }) (v := _) rfl (by kernel_rfl) (by kernel_rfl) (by kernel_rfl) (fun _ _ _ h => h) (Or.inl ⟨by rfl, ?hy13⟩) hS0 ?rest13
  case hy13 =>
    intro w' hSw
    obtain ⟨q1, q2, q3, q4⟩ := HS.out w' hSw
    go_simp
    try with_reducible rfl
  simp only [Act.put, List.setIfInBounds_toArray, List.set_cons_zero, List.set_cons_succ]
  refine' wpAnyH_take (i := 14) (oi := { dst := some 25, op := Op.load 32 (Operand.tmp 24), type := 32, pos := "out.go:17", after := #[{ on := 13, ground := Ground.data }], guard := none }) (v := _) rfl (by kernel_rfl) (by kernel_rfl) (by kernel_rfl) (fun _ _ _ h => h) (Or.inl ⟨by rfl, ?hy14⟩) hS0 ?rest14
  case hy14 =>
    intro w' hSw
    obtain ⟨q1, q2, q3, q4⟩ := HS.out w' hSw
    go_simp
    try with_reducible rfl
  simp only [Act.put, List.setIfInBounds_toArray, List.set_cons_zero, List.set_cons_succ]
  refine' wpAnyH_take (i := 15) (oi := { dst := some 26, op := Op.build 63 #[(0, Operand.const (Value.bool true)), (1, Operand.tmp 13), (3, Operand.tmp 25)], type := 63, pos := "out.go:17", after := #[{ on := 2, ground := Ground.data }, { on := 14, ground := Ground.data }], guard := none }) (v := _) rfl (by kernel_rfl) (by kernel_rfl) (by kernel_rfl) (fun _ _ _ h => h) (Or.inl ⟨by rfl, ?hy15⟩) hS0 ?rest15
  case hy15 =>
    intro w' hSw
    obtain ⟨q1, q2, q3, q4⟩ := HS.out w' hSw
    go_simp
    try with_reducible rfl
  simp only [Act.put, List.setIfInBounds_toArray, List.set_cons_zero, List.set_cons_succ]
  refine wpAnyH_ready (rs := [0, 16]) (by kernel_rfl) (by simp) ?_
  refine AllReadyH.cons (o := { dst := some 11, op := Op.load 36 (Operand.tmp 3), type := 36, pos := "out.go:17", after := #[], guard := none }) rfl (fun K1 hK1 => ?_) ?_
  · -- the row is read first
    go_simp
    refine hK1.out _ _ (hS0) (fun _ => ?_)
    clear hK1 K1
    refine wpAnyH_ready (rs := [16]) (by kernel_rfl) (by simp) ?_
    refine AllReadyH.cons (o := { dst := some 27, op := Op.call { callee := Callee.value (Operand.func 23), args := #[Operand.tmp 12, Operand.tmp 26], argTypes := #[24, 63] }, type := 32, pos := "out.go:17", after := #[{ on := 1, ground := Ground.data }, { on := 15, ground := Ground.data }], guard := none }) rfl (fun K2 hK2 => ?_) AllReadyH.nil
    go_simp
    refine Calls.mono (HEn.out _ hD0.out) ?_
    rintro e w2 ⟨za, zl, zc, rfl, hb2, hn2, oc2, oc2a⟩
    dsimp only
    refine hK2.out _ _ (hn2) (fun _ => ?_)
    clear hK2 K2
    try simp only [Act.put, List.setIfInBounds_toArray, List.set_cons_zero, List.set_cons_succ]
    refine wpAnyH_ready (rs := [17]) (by kernel_rfl) (by simp) ?_
    refine AllReadyH.cons (o := { dst := some 28, op := Op.buildSlice 36 1 #[(0, Operand.tmp 27)], type := 36, pos := "out.go:17", after := #[{ on := 16, ground := Ground.data }], guard := none }) rfl (fun K3 hK3 => ?_) AllReadyH.nil
    go_simp
    refine hK3.out _ _ (hn2.below (balloc w2 _)) (fun _ => ?_)
    clear hK3 K3
    refine wpAnyH_ready (rs := [18]) (by kernel_rfl) (by simp) ?_
    refine AllReadyH.cons (o := { dst := some 29, op := Op.call { callee := Callee.builtin Builtin.append, args := #[Operand.tmp 11, Operand.tmp 28], argTypes := #[36, 36] }, type := 36, pos := "out.go:17", after := #[{ on := 0, ground := Ground.data }, { on := 17, ground := Ground.data }, { on := 16, ground := Ground.chain }], guard := none }) rfl (fun K4 hK4 => ?_) AllReadyH.nil
    refine step_appRow _ (by rfl) _ _ 36 (by rfl) Try.underlying36 (.slice va vl vc) vs fs.length (by rfl) (HR0.out w2 hb2.out.1 _) w2.heap.size (.slice za zl zc) (by rfl) (by simp) (by rfl) hfs ?_
    intro v3 w3 hown3 hg3 hv3
    obtain ⟨b3, k3, rfl⟩ := row_slice hown3
    obtain ⟨f1, f2, f3, f4, f5, f6⟩ := HNx.out w2 w3 _ za zl zc hb2.out.1 hb2.out.2 hown3 hg3 hv3
    refine hK4.out _ _ (f1) (fun _ => ?_)
    clear hK4 K4
    try simp only [Act.put, List.setIfInBounds_toArray, List.set_cons_zero, List.set_cons_succ]
    have z3 : w3.cell? ⟨Bo, 0, none⟩ = some (.slice va vl vc) := by rw [cell_of_row w3 Bo 0 _ _ _ f2]; rfl
    have z4 := frozen_of_row w3 Bo 0 _ _ f2
    have HF : Hid ((w3.setCell ⟨Bo, 0, none⟩ (.slice b3 (fs.length + 1) k3)).heap[Bo]? = some (.cells #[.slice b3 (fs.length + 1) k3] 36 (0, 0)) ∧ RowF B (w3.setCell ⟨Bo, 0, none⟩ (.slice b3 (fs.length + 1) k3)) (.slice b3 (fs.length + 1) k3) (fs ++ [f]) ∧ Near6 W Bo (.slice va vl vc) (w3.setCell ⟨Bo, 0, none⟩ (.slice b3 (fs.length + 1) k3))) := ⟨f5, f6, f4⟩
    clear f1 f2 f3 f4 f5 f6 hown3 hg3 hv3 HNx HR0
    refine wpAnyH_ready (rs := [19]) (by kernel_rfl) (by simp) ?_
    refine AllReadyH.cons (o := { dst := none, op := Op.store 36 (Operand.tmp 3) (Operand.tmp 29), type := 0, pos := "out.go:17", after := #[{ on := 18, ground := Ground.data }, { on := 18, ground := Ground.chain }, { on := 0, ground := Ground.phase }, { on := 1, ground := Ground.phase }, { on := 2, ground := Ground.phase }, { on := 3, ground := Ground.phase }, { on := 4, ground := Ground.phase }, { on := 5, ground := Ground.phase }, { on := 6, ground := Ground.phase }, { on := 7, ground := Ground.phase }, { on := 8, ground := Ground.phase }, { on := 9, ground := Ground.phase }, { on := 10, ground := Ground.phase }, { on := 11, ground := Ground.phase }, { on := 12, ground := Ground.phase }, { on := 13, ground := Ground.phase }, { on := 14, ground := Ground.phase }, { on := 15, ground := Ground.phase }, { on := 16, ground := Ground.phase }, { on := 17, ground := Ground.phase }, { on := 18, ground := Ground.phase }], guard := none }) rfl (fun K5 hK5 => ?_) AllReadyH.nil
    go_simp
    refine hK5.out _ _ (HF.out.2.2) (fun _ => ?_)
    clear hK5 K5
    refine wpAnyH_done (by kernel_rfl) ?_ _
    exact HKf.out _ _ _ _ _ _ _ _ _ _ _ _ _ _ _ _ _ _ _ _ _ HF.out.1 HF.out.2.1 HF.out.2.2
  refine AllReadyH.cons (o := { dst := some 27, op := Op.call { callee := Callee.value (Operand.func 23), args := #[Operand.tmp 12, Operand.tmp 26], argTypes := #[24, 63] }, type := 32, pos := "out.go:17", after := #[{ on := 1, ground := Ground.data }, { on := 15, ground := Ground.data }], guard := none }) rfl (fun K6 hK6 => ?_) AllReadyH.nil
  go_simp
  refine Calls.mono (HEn.out _ hD0.out) ?_
  rintro e w2 ⟨za, zl, zc, rfl, hb2, hn2, oc2, oc2a⟩
  dsimp only
  refine hK6.out _ _ (hn2) (fun _ => ?_)
  clear hK6 K6
  try simp only [Act.put, List.setIfInBounds_toArray, List.set_cons_zero, List.set_cons_succ]
  refine wpAnyH_ready (rs := [0, 17]) (by kernel_rfl) (by simp) ?_
  refine AllReadyH.cons (o := { dst := some 11, op := Op.load 36 (Operand.tmp 3), type := 36, pos := "out.go:17", after := #[], guard := none }) rfl (fun K7 hK7 => ?_) ?_
  · -- behind the call
    go_simp
    refine hK7.out _ _ (hn2) (fun _ => ?_)
    clear hK7 K7
    refine wpAnyH_ready (rs := [17]) (by kernel_rfl) (by simp) ?_
    refine AllReadyH.cons (o := { dst := some 28, op := Op.buildSlice 36 1 #[(0, Operand.tmp 27)], type := 36, pos := "out.go:17", after := #[{ on := 16, ground := Ground.data }], guard := none }) rfl (fun K8 hK8 => ?_) AllReadyH.nil
    go_simp
    refine hK8.out _ _ (hn2.below (balloc w2 _)) (fun _ => ?_)
    clear hK8 K8
    refine wpAnyH_ready (rs := [18]) (by kernel_rfl) (by simp) ?_
    refine AllReadyH.cons (o := { dst := some 29, op := Op.call { callee := Callee.builtin Builtin.append, args := #[Operand.tmp 11, Operand.tmp 28], argTypes := #[36, 36] }, type := 36, pos := "out.go:17", after := #[{ on := 0, ground := Ground.data }, { on := 17, ground := Ground.data }, { on := 16, ground := Ground.chain }], guard := none }) rfl (fun K9 hK9 => ?_) AllReadyH.nil
    refine step_appRow _ (by rfl) _ _ 36 (by rfl) Try.underlying36 (.slice va vl vc) vs fs.length (by rfl) (HR0.out w2 hb2.out.1 _) w2.heap.size (.slice za zl zc) (by rfl) (by simp) (by rfl) hfs ?_
    intro v3 w3 hown3 hg3 hv3
    obtain ⟨b3, k3, rfl⟩ := row_slice hown3
    obtain ⟨f1, f2, f3, f4, f5, f6⟩ := HNx.out w2 w3 _ za zl zc hb2.out.1 hb2.out.2 hown3 hg3 hv3
    refine hK9.out _ _ (f1) (fun _ => ?_)
    clear hK9 K9
    try simp only [Act.put, List.setIfInBounds_toArray, List.set_cons_zero, List.set_cons_succ]
    have z3 : w3.cell? ⟨Bo, 0, none⟩ = some (.slice va vl vc) := by rw [cell_of_row w3 Bo 0 _ _ _ f2]; rfl
    have z4 := frozen_of_row w3 Bo 0 _ _ f2
    have HF : Hid ((w3.setCell ⟨Bo, 0, none⟩ (.slice b3 (fs.length + 1) k3)).heap[Bo]? = some (.cells #[.slice b3 (fs.length + 1) k3] 36 (0, 0)) ∧ RowF B (w3.setCell ⟨Bo, 0, none⟩ (.slice b3 (fs.length + 1) k3)) (.slice b3 (fs.length + 1) k3) (fs ++ [f]) ∧ Near6 W Bo (.slice va vl vc) (w3.setCell ⟨Bo, 0, none⟩ (.slice b3 (fs.length + 1) k3))) := ⟨f5, f6, f4⟩
    clear f1 f2 f3 f4 f5 f6 hown3 hg3 hv3 HNx HR0
    refine wpAnyH_ready (rs := [19]) (by kernel_rfl) (by simp) ?_
    refine AllReadyH.cons (o := { dst := none, op := Op.store 36 (Operand.tmp 3) (Operand.tmp 29), type := 0, pos := "out.go:17", after := #[{ on := 18, ground := Ground.data }, { on := 18, ground := Ground.chain }, { on := 0, ground := Ground.phase }, { on := 1, ground := Ground.phase }, { on := 2, ground := Ground.phase }, { on := 3, ground := Ground.phase }, { on := 4, ground := Ground.phase }, { on := 5, ground := Ground.phase }, { on := 6, ground := Ground.phase }, { on := 7, ground := Ground.phase }, { on := 8, ground := Ground.phase }, { on := 9, ground := Ground.phase }, { on := 10, ground := Ground.phase }, { on := 11, ground := Ground.phase }, { on := 12, ground := Ground.phase }, { on := 13, ground := Ground.phase }, { on := 14, ground := Ground.phase }, { on := 15, ground := Ground.phase }, { on := 16, ground := Ground.phase }, { on := 17, ground := Ground.phase }, { on := 18, ground := Ground.phase }], guard := none }) rfl (fun K10 hK10 => ?_) AllReadyH.nil
    go_simp
    refine hK10.out _ _ (HF.out.2.2) (fun _ => ?_)
    clear hK10 K10
    refine wpAnyH_done (by kernel_rfl) ?_ _
    exact HKf.out _ _ _ _ _ _ _ _ _ _ _ _ _ _ _ _ _ _ _ _ _ HF.out.1 HF.out.2.1 HF.out.2.2
  refine AllReadyH.cons (o := { dst := some 28, op := Op.buildSlice 36 1 #[(0, Operand.tmp 27)], type := 36, pos := "out.go:17", after := #[{ on := 16, ground := Ground.data }], guard := none }) rfl (fun K11 hK11 => ?_) AllReadyH.nil
  go_simp
  refine hK11.out _ _ (hn2.below (balloc w2 _)) (fun _ => ?_)
  clear hK11 K11
  have oc3 := oc2a (.cells #[.slice za zl zc] 32)
  refine wpAnyH_ready (rs := [0]) (by kernel_rfl) (by simp) ?_
  refine AllReadyH.cons (o := { dst := some 11, op := Op.load 36 (Operand.tmp 3), type := 36, pos := "out.go:17", after := #[], guard := none }) rfl (fun K12 hK12 => ?_) AllReadyH.nil
  go_simp
  refine hK12.out _ _ (hn2.below (balloc w2 _)) (fun _ => ?_)
  clear hK12 K12
  refine wpAnyH_ready (rs := [18]) (by kernel_rfl) (by simp) ?_
  refine AllReadyH.cons (o := { dst := some 29, op := Op.call { callee := Callee.builtin Builtin.append, args := #[Operand.tmp 11, Operand.tmp 28], argTypes := #[36, 36] }, type := 36, pos := "out.go:17", after := #[{ on := 0, ground := Ground.data }, { on := 17, ground := Ground.data }, { on := 16, ground := Ground.chain }], guard := none }) rfl (fun K13 hK13 => ?_) AllReadyH.nil
  refine step_appRow _ (by rfl) _ _ 36 (by rfl) Try.underlying36 (.slice va vl vc) vs fs.length (by rfl) (HR0.out w2 hb2.out.1 _) w2.heap.size (.slice za zl zc) (by rfl) (by simp) (by rfl) hfs ?_
  intro v3 w3 hown3 hg3 hv3
  obtain ⟨b3, k3, rfl⟩ := row_slice hown3
  obtain ⟨f1, f2, f3, f4, f5, f6⟩ := HNx.out w2 w3 _ za zl zc hb2.out.1 hb2.out.2 hown3 hg3 hv3
  refine hK13.out _ _ (f1) (fun _ => ?_)
  clear hK13 K13
  try simp only [Act.put, List.setIfInBounds_toArray, List.set_cons_zero, List.set_cons_succ]
  have z3 : w3.cell? ⟨Bo, 0, none⟩ = some (.slice va vl vc) := by rw [cell_of_row w3 Bo 0 _ _ _ f2]; rfl
  have z4 := frozen_of_row w3 Bo 0 _ _ f2
  have HF : Hid ((w3.setCell ⟨Bo, 0, none⟩ (.slice b3 (fs.length + 1) k3)).heap[Bo]? = some (.cells #[.slice b3 (fs.length + 1) k3] 36 (0, 0)) ∧ RowF B (w3.setCell ⟨Bo, 0, none⟩ (.slice b3 (fs.length + 1) k3)) (.slice b3 (fs.length + 1) k3) (fs ++ [f]) ∧ Near6 W Bo (.slice va vl vc) (w3.setCell ⟨Bo, 0, none⟩ (.slice b3 (fs.length + 1) k3))) := ⟨f5, f6, f4⟩
  clear f1 f2 f3 f4 f5 f6 hown3 hg3 hv3 HNx HR0
  refine wpAnyH_ready (rs := [19]) (by kernel_rfl) (by simp) ?_
  refine AllReadyH.cons (o := { dst := none, op := Op.store 36 (Operand.tmp 3) (Operand.tmp 29), type := 0, pos := "out.go:17", after := #[{ on := 18, ground := Ground.data }, { on := 18, ground := Ground.chain }, { on := 0, ground := Ground.phase }, { on := 1, ground := Ground.phase }, { on := 2, ground := Ground.phase }, { on := 3, ground := Ground.phase }, { on := 4, ground := Ground.phase }, { on := 5, ground := Ground.phase }, { on := 6, ground := Ground.phase }, { on := 7, ground := Ground.phase }, { on := 8, ground := Ground.phase }, { on := 9, ground := Ground.phase }, { on := 10, ground := Ground.phase }, { on := 11, ground := Ground.phase }, { on := 12, ground := Ground.phase }, { on := 13, ground := Ground.phase }, { on := 14, ground := Ground.phase }, { on := 15, ground := Ground.phase }, { on := 16, ground := Ground.phase }, { on := 17, ground := Ground.phase }, { on := 18, ground := Ground.phase }], guard := none }) rfl (fun K14 hK14 => ?_) AllReadyH.nil
  go_simp
  refine hK14.out _ _ (HF.out.2.2) (fun _ => ?_)
  clear hK14 K14
  refine wpAnyH_done (by kernel_rfl) ?_ _
  exact HKf.out _ _ _ _ _ _ _ _ _ _ _ _ _ _ _ _ _ _ _ _ _ HF.out.1 HF.out.2.1 HF.out.2.2
end Go.Proofs.Ytnbdbahfekneoab

namespace Go.Proofs.Ytnbdbahfekneoab
open Go.RowKit Go.Shelf

attribute [local go_sem] Oper.semAt_some

set_option maxRecDepth 100000 in
set_option maxHeartbeats 6400000 in
theorem out_r7 (l n : Nat) (g Bx x t : Nat) (u0 u2 u3 u5 u6 u7 u8 u9 u10 u11 u12 u13 u14 u15 u16 u17 u18 u19 u20 u21 u22 u23 u24 u25 u26 u27 u28 u29 u30 u31 u32 u33 u34 u35 u36 u37 u38 u39 u40 u41 u42 u43 u44 u45 u46 u47 u48 u49 u50 u51 u52 u53 u54 u55 u56 u57 u58 u59 u60 u61 : Value) (W : World) (K : Act → World → Prop)
    (hx : W.cell? ⟨Bx, 0, none⟩ = some (.pointer (some ⟨g, 0, none⟩))) (h3 : W.cell? ⟨g, 3, none⟩ = some (.int .i64 (t : Int))) (hf : W.frozen? ⟨g, 3, none⟩ = false) (hxs : x ≤ 1099511627776)
    (hK : ∀ (c30 c31 c32 c33 c34 c35 c36 c37 c38 c39 : Value), K ⟨#[u0, .pointer (some ⟨Bx, 0, none⟩), u2, u3, .int .i64 (x : Int), u5, u6, u7, u8, u9, u10, u11, u12, u13, u14, u15, u16, u17, u18, u19, u20, u21, u22, u23, u24, u25, u26, u27, u28, u29, c30, c31, c32, c33, c34, c35, c36, c37, c38, c39, u40, u41, u42, u43, u44, u45, u46, u47, u48, u49, u50, u51, u52, u53, u54, u55, u56, u57, u58, u59, u60, u61], []⟩ (W.drew.setCell ⟨g, 3, none⟩ (.int .i64 ((max t (x + 1) : Nat) : Int)))) :
    Code.wpIn (Fence.wide.inRound l) n Try.prog ((Try.f8.body.bind (regionAtR 7)).getD .skip) (Exit.then K fun _ _ _ => False) ⟨#[u0, .pointer (some ⟨Bx, 0, none⟩), u2, u3, .int .i64 (x : Int), u5, u6, u7, u8, u9, u10, u11, u12, u13, u14, u15, u16, u17, u18, u19, u20, u21, u22, u23, u24, u25, u26, u27, u28, u29, u30, u31, u32, u33, u34, u35, u36, u37, u38, u39, u40, u41, u42, u43, u44, u45, u46, u47, u48, u49, u50, u51, u52, u53, u54, u55, u56, u57, u58, u59, u60, u61], []⟩ W := by
  have hsum : IntKind.i64.wrap ((x : Int) + 1) = (x : Int) + 1 := by simp [IntKind.wrap, IntKind.signed, IntKind.bits]; omega
  have hmx : (if (t : Int) < (x : Int) + 1 then (x : Int) + 1 else (t : Int)) = ((max t (x + 1) : Nat) : Int) := by split <;> omega
  have hS0 : (fun w' : World => w'.cell? ⟨Bx, 0, none⟩ = some (.pointer (some ⟨g, 0, none⟩))) W.drew := hx
  obtain ⟨z, hz⟩ : ∃ z : Int, z = ((max t (x + 1) : Nat) : Int) := ⟨_, rfl⟩
  rw [← hz] at hmx hK
  have hS1 : (fun w' : World => w'.cell? ⟨Bx, 0, none⟩ = some (.pointer (some ⟨g, 0, none⟩))) (W.drew.setCell ⟨g, 3, none⟩ (.int .i64 z)) := by
    show (W.drew.setCell ⟨g, 3, none⟩ (.int .i64 z)).cell? ⟨Bx, 0, none⟩ = _
    rw [World.cell?_setCell_other _ _ _ _ (by simp)]
    exact hx
  have HK : Hid (∀ (c30 c31 c32 c33 c34 c35 c36 c37 c38 c39 : Value), K ⟨#[u0, .pointer (some ⟨Bx, 0, none⟩), u2, u3, .int .i64 (x : Int), u5, u6, u7, u8, u9, u10, u11, u12, u13, u14, u15, u16, u17, u18, u19, u20, u21, u22, u23, u24, u25, u26, u27, u28, u29, c30, c31, c32, c33, c34, c35, c36, c37, c38, c39, u40, u41, u42, u43, u44, u45, u46, u47, u48, u49, u50, u51, u52, u53, u54, u55, u56, u57, u58, u59, u60, u61], []⟩ (W.drew.setCell ⟨g, 3, none⟩ (.int .i64 z))) := hK
  have d3 : W.drew.cell? ⟨g, 3, none⟩ = some (.int .i64 (t : Int)) := h3
  have d4 : W.drew.frozen? ⟨g, 3, none⟩ = false := hf
  clear hK hz
  conv => arg 4; whnf
  dsimp only
  refine region_round (by kernel_rfl) (noDefer (by kernel_rfl)) (by rintro ⟨a, w, h⟩; exact h) ?_
  refine wpAny_of_held (S := fun w' : World => w'.cell? ⟨Bx, 0, none⟩ = some (.pointer (some ⟨g, 0, none⟩))) _ _ _ _ ?_
  refine' wpAnyH_take (i := 0) (oi := { dst := some 30, op := Op.load 24 (Operand.tmp 1), type := 24, pos := "out.go:18", after := #[], guard := none }) (v := _) rfl (by kernel_rfl) (by kernel_rfl) (by kernel_rfl) (fun _ _ _ h => h) (Or.inl ⟨by rfl, ?hy0⟩) hS0 ?rest0
  case hy0 =>
    intro w' hSw
    try dsimp only at hSw
    go_simp
    try with_reducible rfl
  simp only [Act.put, List.setIfInBounds_toArray, List.set_cons_zero, List.set_cons_succ]
  refine' wpAnyH_take (i := 1) (oi := { dst := some 31, op := Op.load 24 (Operand.tmp 1), type := 24, pos := "out.go:18", after := #[], guard := none }) (v := _) rfl (by kernel_rfl) (by kernel_rfl) (by kernel_rfl) (fun _ _ _ h => h) (Or.inl ⟨by rfl, ?hy1⟩) hS0 ?rest1
  case hy1 =>
    intro w' hSw
    try dsimp only at hSw
    go_simp
    try with_reducible rfl
  simp only [Act.put, List.setIfInBounds_toArray, List.set_cons_zero, List.set_cons_succ]
  refine' wpAnyH_take (i := 2) (oi := { dst := some 32, op := Op.nilCheck (Operand.tmp 31), type := 0, pos := "out.go:18", after := #[{ on := 1, ground := Ground.data }], guard := none }) (v := _) rfl (by kernel_rfl) (by kernel_rfl) (by kernel_rfl) (fun _ _ _ h => h) (Or.inl ⟨by rfl, ?hy2⟩) hS0 ?rest2
  case hy2 =>
    intro w' hSw
    try dsimp only at hSw
    go_simp
    try with_reducible rfl
  simp only [Act.put, List.setIfInBounds_toArray, List.set_cons_zero, List.set_cons_succ]
  refine' wpAnyH_take (i := 3) (oi := { dst := some 33, op := Op.fieldAddr 46 (Operand.tmp 32) 3, type := 0, pos := "out.go:18", after := #[{ on := 2, ground := Ground.data }], guard := none }) (v := _) rfl (by kernel_rfl) (by kernel_rfl) (by kernel_rfl) (fun _ _ _ h => h) (Or.inl ⟨by rfl, ?hy3⟩) hS0 ?rest3
  case hy3 =>
    intro w' hSw
    try dsimp only at hSw
    go_simp
    try with_reducible rfl
  simp only [Act.put, List.setIfInBounds_toArray, List.set_cons_zero, List.set_cons_succ]
  refine' wpAnyH_take (i := 5) (oi := { dst := some 35, op := Op.move (Operand.tmp 4), type := 3, pos := "out.go:18", after := #[], guard := none }) (v := _) rfl (by kernel_rfl) (by kernel_rfl) (by kernel_rfl) (fun _ _ _ h => h) (Or.inl ⟨by rfl, ?hy5⟩) hS0 ?rest5
  case hy5 =>
    intro w' hSw
    try dsimp only at hSw
    go_simp
    try with_reducible rfl
  simp only [Act.put, List.setIfInBounds_toArray, List.set_cons_zero, List.set_cons_succ]
  refine' wpAnyH_take (i := 6) (oi := { dst := some 36, op := Op.binOp BinOp.add 3 (Operand.tmp 35) (Operand.const (Value.int IntKind.i64 1)) 3, type := 3, pos := "out.go:18", after := #[{ on := 5, ground := Ground.data }], guard := none }) (v := _) rfl (by kernel_rfl) (by kernel_rfl) (by kernel_rfl) (fun _ _ _ h => h) (Or.inl ⟨by rfl, ?hy6⟩) hS0 ?rest6
  case hy6 =>
    intro w' hSw
    try dsimp only at hSw
    go_simp
    try with_reducible rfl
  simp only [Act.put, List.setIfInBounds_toArray, List.set_cons_zero, List.set_cons_succ]
  refine wpAnyH_ready (rs := [4]) (by kernel_rfl) (by simp) ?_
  refine AllReadyH.cons (o := { dst := some 34, op := Op.load 3 (Operand.tmp 33), type := 3, pos := "out.go:18", after := #[{ on := 3, ground := Ground.data }], guard := none }) rfl (fun K4 hK4 => ?_) AllReadyH.nil
  go_simp
  refine hK4.out _ _ hS0 (fun _ => ?_)
  clear hK4 K4
  try simp only [Act.put, List.setIfInBounds_toArray, List.set_cons_zero, List.set_cons_succ]
  refine wpAnyH_ready (rs := [7]) (by kernel_rfl) (by simp) ?_
  refine AllReadyH.cons (o := { dst := some 37, op := Op.call { callee := Callee.builtin Builtin.max, args := #[Operand.tmp 34, Operand.tmp 36], argTypes := #[3, 3] }, type := 3, pos := "out.go:18", after := #[{ on := 4, ground := Ground.data }, { on := 6, ground := Ground.data }], guard := none }) rfl (fun K7 hK7 => ?_) AllReadyH.nil
  refine step_max _ (by rfl) _ _ 3 (by rfl) (t : Int) ((x : Int) + 1) z (by rfl) (by rfl) hmx ?_
  refine hK7.out _ _ hS0 (fun _ => ?_)
  clear hK7 K7
  try simp only [Act.put, List.setIfInBounds_toArray, List.set_cons_zero, List.set_cons_succ]
  refine' wpAnyH_take (i := 8) (oi := { dst := some 38, op := Op.nilCheck (Operand.tmp 30), type := 0, pos := "out.go:18", after := #[{ on := 0, ground := Ground.data }, { on := 0, ground := Ground.phase }, { on := 1, ground := Ground.phase }, { on := 2, ground := Ground.phase }, { on := 3, ground := Ground.phase }, { on := 4, ground := Ground.phase }, { on := 5, ground := Ground.phase }, { on := 6, ground := Ground.phase }, { on := 7, ground := Ground.phase }], guard := none }) (v := _) rfl (by kernel_rfl) (by kernel_rfl) (by kernel_rfl) (fun _ _ _ h => h) (Or.inl ⟨by rfl, ?hy8⟩) hS0 ?rest8
  case hy8 =>
    intro w' hSw
    try dsimp only at hSw
    go_simp
    try with_reducible rfl
  simp only [Act.put, List.setIfInBounds_toArray, List.set_cons_zero, List.set_cons_succ]
  refine' wpAnyH_take (i := 9) (oi := { dst := some 39, op := Op.fieldAddr 46 (Operand.tmp 38) 3, type := 0, pos := "out.go:18", after := #[{ on := 8, ground := Ground.data }, { on := 0, ground := Ground.phase }, { on := 1, ground := Ground.phase }, { on := 2, ground := Ground.phase }, { on := 3, ground := Ground.phase }, { on := 4, ground := Ground.phase }, { on := 5, ground := Ground.phase }, { on := 6, ground := Ground.phase }, { on := 7, ground := Ground.phase }], guard := none }) (v := _) rfl (by kernel_rfl) (by kernel_rfl) (by kernel_rfl) (fun _ _ _ h => h) (Or.inl ⟨by rfl, ?hy9⟩) hS0 ?rest9
  case hy9 =>
    intro w' hSw
    try dsimp only at hSw
    go_simp
    try with_reducible rfl
  simp only [Act.put, List.setIfInBounds_toArray, List.set_cons_zero, List.set_cons_succ]
  refine wpAnyH_ready (rs := [10]) (by kernel_rfl) (by simp) ?_
  refine AllReadyH.cons (o := { dst := none, op := Op.store 3 (Operand.tmp 39) (Operand.tmp 37), type := 0, pos := "out.go:18", after := #[{ on := 9, ground := Ground.data }, { on := 7, ground := Ground.data }, { on := 0, ground := Ground.phase }, { on := 1, ground := Ground.phase }, { on := 2, ground := Ground.phase }, { on := 3, ground := Ground.phase }, { on := 4, ground := Ground.phase }, { on := 5, ground := Ground.phase }, { on := 6, ground := Ground.phase }, { on := 7, ground := Ground.phase }], guard := none }) rfl (fun K10 hK10 => ?_) AllReadyH.nil
  go_simp
  refine hK10.out _ _ hS1 (fun _ => ?_)
  clear hK10 K10
  try simp only [Act.put, List.setIfInBounds_toArray, List.set_cons_zero, List.set_cons_succ]
  refine wpAnyH_done (by kernel_rfl) ?_ _
  exact HK.out _ _ _ _ _ _ _ _ _ _ 
end Go.Proofs.Ytnbdbahfekneoab

namespace Go.Proofs.Ytnbdbahfekneoab
open Go.RowKit Go.Shelf

theorem RowB.cells {w : World} {v : Value} {Ls : List (List Int)} (h : RowB w v Ls) : ∀ b, v.ownBlock = some b → ∃ cs t m, w.heap[b]? = some (.cells cs t m) := fun b e => by
  obtain ⟨vs, h1, _⟩ := h
  rcases h1.2 with ⟨rfl, _⟩ | ⟨g, cap, cur, rfl, _, hg, _⟩
  · simp [Value.ownBlock] at e
  · simp [Value.ownBlock] at e
    subst e
    exact ⟨_, _, _, hg⟩
theorem RowF.base {B B' : Nat} {w : World} {v : Value} {fs : List Fr11} (h : RowF B w v fs) (hb : B' ≤ B) : RowF B' w v fs := by
  obtain ⟨yss, h1, h2, h3⟩ := h
  exact ⟨yss, h1, fun b e => Nat.le_trans hb (h2 b e), h3⟩
theorem RowF.cells {B : Nat} {w : World} {v : Value} {fs : List Fr11} (h : RowF B w v fs) : ∀ b, v.ownBlock = some b → B ≤ b ∧ ∃ cs t m, w.heap[b]? = some (.cells cs t m) := fun b e => by
  obtain ⟨yss, h1, h2, _⟩ := h
  exact ⟨h2 b e, h1.cells b e⟩
theorem not_cells {o : Obj} (h : o.isCells = false) {cs : Array Value} {t : TypeId} {m : Nat × Nat} (e : o = .cells cs t m) : False := by
  subst e
  cases h
/-- Rows stay while what is no row turns. -/
theorem RowF.walk {B : Nat} {w w' : World} {v : Value} {fs : List Fr11} {row : Option Nat} (h : RowF B w v fs) (hg : w.grownBy w' row) (hr : ∀ r, row = some r → ∃ o : Obj, w.heap[r]? = some o ∧ o.isCells = false) : RowF B w' v fs := by
  obtain ⟨yss, h1, h2⟩ := h
  refine ⟨yss, h1.only (Only.of_grown hg (fun b e => e) : Only (fun b => row = some b) w w') (fun b e q => ?_) (fun b q => ?_), h2⟩
  · obtain ⟨cs, t, m, hc⟩ := h1.cells b e
    obtain ⟨o, ho, hn⟩ := hr b q
    exact not_cells hn (Option.some.inj (ho.symm.trans hc))
  · rintro ⟨cur, hc⟩
    obtain ⟨o, ho, hn⟩ := hr b q
    exact not_cells hn (Option.some.inj (ho.symm.trans hc))
/-- What is no row stays, where rows alone turn. -/
theorem keeps_only {C : Nat → Prop} {w w' : World} (k : Only C w w') (hC : ∀ b, C b → ∃ cs t m, w.heap[b]? = some (.cells cs t m)) : KeepsOthers w w' := by
  refine ⟨k.size, fun b o ho hn => ?_⟩
  rw [k.block b (Array.getElem?_eq_some_iff.1 ho).1 (fun e => ?_)]
  · exact ho
  · obtain ⟨cs, t, m, hc⟩ := hC b e
    exact not_cells hn (Option.some.inj (ho.symm.trans hc))

/-- Where Out is, once its variables lie in W0: so many were sent, and these frames are in the row. -/
structure OutI (W0 : World) (g Bo : Nat) (st : LS) (v1 : Value) (bm : Nat) (v6 : Value) (sn : Nat) (fs : List Fr11) (v : Value) (W : World) : Prop where
  heap : W.heap[g]? = some (.cells (pcells { st with sent := sn } v1 bm v6) 46 (0, 0))
  only : Only (fun b => b = g ∨ b = Bo) W0 W
  out : W.heap[Bo]? = some (.cells #[v] 36 (0, 0))
  row : RowF W0.heap.size W v fs
theorem OutI.walk {W0 W W' : World} {g Bo : Nat} {st : LS} {v1 : Value} {bm : Nat} {v6 : Value} {sn : Nat} {fs : List Fr11} {v : Value} {row : Option Nat} (h : OutI W0 g Bo st v1 bm v6 sn fs v W) (hg0 : g < W0.heap.size) (hb0 : Bo < W0.heap.size) (hg : W.grownBy W' row) (hr : ∀ r, row = some r → W0.heap.size ≤ r ∧ ∃ o : Obj, W.heap[r]? = some o ∧ o.isCells = false) : OutI W0 g Bo st v1 bm v6 sn fs v W' := by
  have hs := h.only.size
  refine ⟨(hg.block g (by omega) (fun e => ?_)).trans h.heap, h.only.trans (Only.of_grown hg (fun b e => e) : Only (fun b => row = some b) W W') (fun q e => .inr (hr q e).1), (hg.block Bo (by omega) (fun e => ?_)).trans h.out, h.row.walk hg (fun r e => (hr r e).2)⟩
  · have := (hr g e.symm).1; omega
  · have := (hr Bo e.symm).1; omega
/-- The end, while Out is under way. -/
theorem PEndV.outs {W0 W : World} {g : Nat} {st st' : LS} {v1 : Value} {bm : Nat} {v6 : Value} {T C : Nat → Prop} (h : PEndV W0 g st v1 bm v6 T) (o : Only C W0 W) (hC : ∀ b, C b → b = g ∨ ¬ T b) (hB : ∀ b, C b → ¬ IsB W0 b) (hh : W.heap[g]? = some (.cells (pcells st' v1 bm v6) 46 (0, 0))) (e1 : st'.took = st.took) (e2 : st'.sure = st.sure) (e3 : st'.all = st.all) (e4 : st'.told = st.told) (e5 : st'.hold = st.hold) (hf : st'.Loose) : PEndV W g st' v1 bm v6 T := by
  refine ⟨hh, h.foot, h.apart, ?_, ?_, ?_, hf, by rw [e1, e3]; exact h.few, by rw [e1]; exact h.short⟩
  · rw [e1, e2]
    refine h.queue.only o (fun b e q => ?_) hB
    rcases hC b q with k | k
    · exact h.apart.2.1.1 (by rw [e, k])
    · exact k ((h.foot b).2 (.inr (.inr (.inl e))))
  · rw [e3, e4]
    refine h.come.only o (fun b e q => ?_) hB
    rcases hC b q with k | k
    · exact h.apart.2.2.1.1 (by rw [e, k])
    · exact k ((h.foot b).2 (.inr (.inr (.inr e))))
  · rw [e5]
    refine h.held.only o (fun q => ?_) hB
    rcases hC bm q with k | k
    · exact h.apart.1 k
    · exact k ((h.foot bm).2 (.inr (.inl rfl)))
/-- How many were sent, once these went. -/
def sentAft {F E : Nat} (s : Nat) (xs : List (DueX F E)) : Nat := xs.foldl (fun t x => max t (x.1 + 1)) s
theorem sentAft_snoc {F E s : Nat} (xs : List (DueX F E)) (x : DueX F E) : sentAft s (xs ++ [x]) = max (sentAft s xs) (x.1 + 1) := by
  unfold sentAft
  rw [List.foldl_append]
  rfl
theorem sentAft_runs : ∀ (k : Nat) {F E s : Nat} (xs : List (DueX F E)), Runs k xs → sentAft s xs = if k = 0 then s else max s (F + k)
  | 0, F, E, s, xs, h => by
    have : xs = [] := List.eq_nil_of_length_eq_zero h.len
    subst this
    rfl
  | k + 1, F, E, s, xs, h => by
    have hl := h.len
    have hne : xs ≠ [] := fun e => by rw [e] at hl; cases hl
    obtain ⟨ys, y, rfl⟩ : ∃ ys y, xs = ys ++ [y] := ⟨_, _, (List.dropLast_concat_getLast hne).symm⟩
    have h2 : Runs k ys ∧ y.1 = F + k := by
      unfold Runs at h ⊢
      rw [List.map_append, List.range'_concat] at h
      have := List.append_inj' h rfl
      exact ⟨this.1, by simpa using this.2⟩
    have hk : ¬ (k + 1 = 0) := by omega
    rw [sentAft_snoc, sentAft_runs k ys h2.1, h2.2, if_neg hk]
    split <;> omega
theorem sentAft_le {F E s : Nat} (hs : s ≤ E) : ∀ (n : Nat) (xs : List (DueX F E)), xs.length = n → s ≤ sentAft s xs ∧ sentAft s xs ≤ E
  | 0, xs, h => by
    have : xs = [] := List.eq_nil_of_length_eq_zero h
    subst this
    exact ⟨Nat.le_refl _, hs⟩
  | n + 1, xs, h => by
    have hne : xs ≠ [] := fun e => by rw [e] at h; cases h
    obtain ⟨ys, y, rfl⟩ : ∃ ys y, xs = ys ++ [y] := ⟨_, _, (List.dropLast_concat_getLast hne).symm⟩
    have hl : ys.length = n := by simpa using h
    have := sentAft_le hs n ys hl
    rw [sentAft_snoc]
    have := y.2
    omega
/-- What a round of Out does. -/
theorem OutI.round {W0 W w' : World} {g Bo : Nat} {st : LS} {v1 : Value} {bm : Nat} {v6 : Value} {sn x : Nat} {fs : List Fr11} {va : Option Addr} {vl vc : Nat} {v' : Value} (h : OutI W0 g Bo st v1 bm v6 sn fs (.slice va vl vc) W) (hg0 : g < W0.heap.size) (hb0 : Bo < W0.heap.size) (hne : Bo ≠ g)
    (h5 : w'.heap[Bo]? = some (.cells #[v'] 36 (0, 0))) (h6 : RowF W0.heap.size w' v' (fs ++ [st.data x])) (h4 : Near6 W Bo (.slice va vl vc) w') :
    OutI W0 g Bo st v1 bm v6 (max sn (x + 1)) (fs ++ [st.data x]) v' (w'.drew.setCell ⟨g, 3, none⟩ (.int .i64 ((max sn (x + 1) : Nat) : Int))) ∧ KeepsOthers W (w'.drew.setCell ⟨g, 3, none⟩ (.int .i64 ((max sn (x + 1) : Nat) : Int))) := by
  have hs := h.only.size
  have hown := h.row.cells
  have hg' : w'.drew.heap[g]? = some (.cells (pcells { st with sent := sn } v1 bm v6) 46 (0, 0)) := (h4.block g (by omega) (fun e => by
    rcases e with e | e
    · exact hne e.symm
    · have := (hown g e).1; omega)).trans h.heap
  have o2 : Only (fun b => b = g) w'.drew (w'.drew.setCell ⟨g, 3, none⟩ (.int .i64 ((max sn (x + 1) : Nat) : Int))) := Only.of_grown (grown_set _ g 3 _) (fun b e => by cases e; rfl)
  have o1 : Only (fun b => b = Bo ∨ (Value.slice va vl vc).ownBlock = some b) W w'.drew := ⟨h4.os, h4.tape, h4.output, h4.size, h4.block⟩
  have r6 : RowF W0.heap.size w'.drew v' (fs ++ [st.data x]) := h6.below ⟨rfl, rfl, rfl, Nat.le_refl _, fun _ _ => rfl⟩
  have hs4 := h4.size
  refine ⟨⟨by rw [heap_setCell_same _ g 3 _ _ _ hg']; rfl, ?_, ?_, r6.only o2 (fun b e => by omega) (fun b e => by rw [e]; exact IsB.not hg' (by decide))⟩, ?_⟩
  · refine (h.only.trans o1 (fun q e => ?_)).trans o2 (fun q e => .inl (.inl e))
    rcases e with e | e
    · exact .inl (.inr e)
    · exact .inr (hown q e).1
  · rw [o2.block Bo (show Bo < w'.heap.size by omega) hne]
    exact h5
  · have o12 : Only (fun b => b = g ∨ b = Bo ∨ (Value.slice va vl vc).ownBlock = some b) W (w'.drew.setCell ⟨g, 3, none⟩ (.int .i64 ((max sn (x + 1) : Nat) : Int))) := (o1.wide (fun b e => .inr e)).trans (o2.wide (fun b e => .inl e) : Only (fun b => b = g ∨ b = Bo ∨ (Value.slice va vl vc).ownBlock = some b) w'.drew _) (fun q e => .inl e)
    refine keeps_only o12 (fun b e => ?_)
    rcases e with e | e | e
    · rw [e]; exact ⟨_, _, _, h.heap⟩
    · rw [e]; exact ⟨_, _, _, h.out⟩
    · exact (hown b e).2
/-- The end behind Out. -/
theorem OutI.fin {w W0 W : World} {g Bo D : Nat} {st : LS} {v1 : Value} {bm : Nat} {v6 : Value} {T : Nat → Prop} {v : Value} (hF : st.Fine) (h0 : PEndV w g st v1 bm v6 T) (hb : Below w.heap.size w W0) (h : OutI W0 g Bo st v1 bm v6 st.due st.outF v W) (hBo : w.heap.size ≤ Bo) (hB0 : Bo < W0.heap.size) (hNB : ¬ IsB W0 Bo) (hD : W0.heap.size ≤ D) (hd : W.heap[D]? = some (.deferred (some []))) :
    OutT11 PEnd w g st T (.returned v) (((W.setCell ⟨g, 7, none⟩ (.bool false)).setCell ⟨g, 8, none⟩ (.bool false)).putObj D (.deferred none)) := by
  have hP := h0.below hb
  have hgl := h0.lt
  have hsz := hb.size
  have hs := h.only.size
  have hDl : D < W.heap.size := (Array.getElem?_eq_some_iff.1 hd).1
  have h7 := heap_setCell_same W g 7 _ _ (.bool false) h.heap
  have h8 := heap_setCell_same _ g 8 _ _ (.bool false) h7
  have o7 : Only (fun q => q = g) W (W.setCell ⟨g, 7, none⟩ (.bool false)) := Only.of_grown (grown_set W g 7 _) (fun b e => by cases e; rfl)
  have o8 : Only (fun q => q = g) (W.setCell ⟨g, 7, none⟩ (.bool false)) ((W.setCell ⟨g, 7, none⟩ (.bool false)).setCell ⟨g, 8, none⟩ (.bool false)) := Only.of_grown (grown_set _ g 8 _) (fun b e => by cases e; rfl)
  have o78 := o7.trans o8 (fun q e => .inl e)
  obtain ⟨W8, hW8⟩ : ∃ W8, W8 = (W.setCell ⟨g, 7, none⟩ (.bool false)).setCell ⟨g, 8, none⟩ (.bool false) := ⟨_, rfl⟩
  rw [← hW8] at h8 o78 ⊢
  have hg9 : W8.grownBy (W8.putObj D (.deferred none)) (some D) := grownBy_putObj' W8 D _
  have o9 : Only (fun q => q = D) W8 (W8.putObj D (.deferred none)) := Only.of_grown hg9 (fun b e => by cases e; rfl)
  have hd8 : W8.heap[D]? = some (.deferred (some [])) := (o78.block D hDl (by omega)).trans hd
  have hs8 := o78.size
  have r8 : RowF W0.heap.size W8 v st.outF := h.row.only o78 (fun b e => by omega) (fun b e => by rw [e]; exact IsB.not h.heap (by decide))
  have r9 : RowF W0.heap.size (W8.putObj D (.deferred none)) v st.outF := r8.walk hg9 (fun r e => by cases e; exact ⟨_, hd8, rfl⟩)
  have oW : Only (fun b => b = g ∨ b = Bo) W0 (W8.putObj D (.deferred none)) := (h.only.trans o78 (fun q e => .inl (.inl e))).trans o9 (fun q e => .inr (by omega))
  have hF' := LS.out_fine hF
  have hTo := h0.old
  have hE : PEndV (W8.putObj D (.deferred none)) g st.out v1 bm v6 T := by
    refine hP.outs (st' := st.out) oW (fun b e => ?_) (fun b e => ?_) ?_ rfl rfl rfl rfl rfl hF'.loose
    · rcases e with e | e
      · exact .inl e
      · exact .inr (fun q => by have := hTo b q; omega)
    · rcases e with e | e
      · rw [e]; exact IsB.not hP.heap (by decide)
      · rw [e]; exact hNB
    · rw [o9.block g (by omega) (by omega), h8]
      rfl
  refine ⟨v, T, rfl, ⟨hF', v1, bm, v6, hE⟩, ?_, fun b e => .inl e, r9.base hsz, fun b e q => ?_⟩
  · refine (Only.of_below hb).trans oW (fun b e => ?_)
    rcases e with e | e
    · exact .inl (by rw [e]; exact (h0.foot g).2 (.inl rfl))
    · exact .inr (by omega)
  · have := (r9.cells b e).1
    have := hTo b q
    omega
end Go.Proofs.Ytnbdbahfekneoab
