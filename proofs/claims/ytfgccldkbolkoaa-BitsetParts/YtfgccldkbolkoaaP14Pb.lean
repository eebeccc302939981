/-
  BitsetParts: its last statement. Written by mk/p14laws.py.
-/
import Derived.Test.YtfgccldkbolkoaaP14Pa
import Derived.Deep.RegionHeld3
namespace Go.Proofs.Ytfgccldkbolkoaa
open Go.RowKit

set_option maxRecDepth 100000 in
set_option maxHeartbeats 12800000 in
theorem bp_p11 {x0 x1 x3 x4 x5 x6 x8 x10 x13 x16 x17 x18 x19 x20 x21 x22 x23 x24 x25 x26 x27 x28 x29 x30 x31 x32 x33 x34 x35 x36 x37 x38 x39 x40 x41 x42 x43 x44 x45 x46 x47 x48 x49 x50 x51 x52 x53 x54 x55 x56 x57 x58 x59 x60 x61 x62 x63 x64 x65 x66 x67 x68 x69 x70 x71 x72 x73 x74 x75 x76 x77 x78 x79 x80 x81 x82 x83 x84 x85 x86 x87 x88 x89 x90 x91 x92 x93 x94 x95 : Value} {Q : Exit → Act → World → Prop} {W : World} {n1 n2 n3 : Nat} {gz : Nat} {Nz : Int} {pz : Option Addr} {lz cz : Nat} {wsz : List Int} {gx : Nat} {Nx : Int} {px : Option Addr} {lx cx : Nat} {wsx : List Int} {gy : Nat} {Ny : Int} {py : Option Addr} {ly cy : Nat} {wsy : List Int} {ga : Nat} {Na : Int} {pa : Option Addr} {la ca : Nat} {wsa : List Int} (OK : CntOk14) (hz : SetVar W gz Nz pz lz cz) (mz : Nums W pz lz cz wsz) (tz : -9223372036854775808 ≤ Nz ∧ Nz < 9223372036854775808) (rz : ∀ ns, ResList Nz wsz ns → (ns.length : Int) = (0 : Int)) (hx : SetVar W gx Nx px lx cx) (mx : Nums W px lx cx wsx) (tx : -9223372036854775808 ≤ Nx ∧ Nx < 9223372036854775808) (rx : ∀ ns, ResList Nx wsx ns → (ns.length : Int) = (n1 : Int)) (hy : SetVar W gy Ny py ly cy) (my : Nums W py ly cy wsy) (ty : -9223372036854775808 ≤ Ny ∧ Ny < 9223372036854775808) (ry : ∀ ns, ResList Ny wsy ns → (ns.length : Int) = (n2 : Int)) (ha : SetVar W ga Na pa la ca) (ma : Nums W pa la ca wsa) (ta : -9223372036854775808 ≤ Na ∧ Na < 9223372036854775808) (ra : ∀ ns, ResList Na wsa ns → (ns.length : Int) = (n3 : Int)) (hn : (n1 : Int) + (n2 : Int) = (n3 : Int)) (hn1 : n1 ≤ 65536) (hn2 : n2 ≤ 65536)
    (hN : ∀ (wx : World) (y72 y73 y74 y75 y76 y77 y78 y79 y80 y81 y82 y83 y84 y85 y86 y87 y88 y89 y90 y91 y92 y93 y94 y95 : Value), Below W.heap.size W wx → Q .normal ⟨#[x0, x1, .pointer (some ⟨ga, 0, none⟩), x3, .bool true, x5, x6, .pointer (some ⟨gx, 0, none⟩), x8, .pointer (some ⟨gy, 0, none⟩), x10, .pointer (some ⟨gz, 0, none⟩), .int .i64 0, x13, .int .i64 0, .bool true, x16, x17, x18, x19, x20, x21, x22, x23, x24, x25, x26, x27, x28, x29, x30, x31, x32, x33, x34, x35, x36, x37, x38, x39, x40, x41, x42, x43, x44, x45, x46, x47, x48, x49, x50, x51, x52, x53, x54, x55, x56, x57, x58, x59, x60, x61, x62, x63, x64, x65, x66, x67, x68, x69, x70, x71, y72, y73, y74, y75, y76, y77, y78, y79, y80, y81, y82, y83, y84, y85, y86, y87, y88, y89, y90, y91, y92, y93, y94, y95], []⟩ wx) :
    Code.wp Try.prog ((Try.f5.body.bind (pcAt 11)).getD .skip) Q ⟨#[x0, x1, .pointer (some ⟨ga, 0, none⟩), x3, x4, x5, x6, .pointer (some ⟨gx, 0, none⟩), x8, .pointer (some ⟨gy, 0, none⟩), x10, .pointer (some ⟨gz, 0, none⟩), .int .i64 0, x13, .int .i64 0, .bool true, x16, x17, x18, x19, x20, x21, x22, x23, x24, x25, x26, x27, x28, x29, x30, x31, x32, x33, x34, x35, x36, x37, x38, x39, x40, x41, x42, x43, x44, x45, x46, x47, x48, x49, x50, x51, x52, x53, x54, x55, x56, x57, x58, x59, x60, x61, x62, x63, x64, x65, x66, x67, x68, x69, x70, x71, x72, x73, x74, x75, x76, x77, x78, x79, x80, x81, x82, x83, x84, x85, x86, x87, x88, x89, x90, x91, x92, x93, x94, x95], []⟩ W := by
  conv => arg 2; whnf
  have HN : Hid (∀ (wx : World) (y72 y73 y74 y75 y76 y77 y78 y79 y80 y81 y82 y83 y84 y85 y86 y87 y88 y89 y90 y91 y92 y93 y94 y95 : Value), Below W.heap.size W wx → Q .normal ⟨#[x0, x1, .pointer (some ⟨ga, 0, none⟩), x3, .bool true, x5, x6, .pointer (some ⟨gx, 0, none⟩), x8, .pointer (some ⟨gy, 0, none⟩), x10, .pointer (some ⟨gz, 0, none⟩), .int .i64 0, x13, .int .i64 0, .bool true, x16, x17, x18, x19, x20, x21, x22, x23, x24, x25, x26, x27, x28, x29, x30, x31, x32, x33, x34, x35, x36, x37, x38, x39, x40, x41, x42, x43, x44, x45, x46, x47, x48, x49, x50, x51, x52, x53, x54, x55, x56, x57, x58, x59, x60, x61, x62, x63, x64, x65, x66, x67, x68, x69, x70, x71, y72, y73, y74, y75, y76, y77, y78, y79, y80, y81, y82, y83, y84, y85, y86, y87, y88, y89, y90, y91, y92, y93, y94, y95], []⟩ wx) := hN
  clear hN
  have HCz : Hid (∀ wx : World, Below W.heap.size W wx → Calls Try.prog 20 #[.agg #[.int .i64 Nz, .slice pz lz cz]] wx fun e w' => e = .returned (.int .i64 (0 : Int)) ∧ ((w'.cell? ⟨gz, 0, none⟩ = some (.int .i64 Nz) ∧ w'.cell? ⟨gz, 1, none⟩ = some (.slice pz lz cz)) ∧ (w'.cell? ⟨gx, 0, none⟩ = some (.int .i64 Nx) ∧ w'.cell? ⟨gx, 1, none⟩ = some (.slice px lx cx)) ∧ (w'.cell? ⟨gy, 0, none⟩ = some (.int .i64 Ny) ∧ w'.cell? ⟨gy, 1, none⟩ = some (.slice py ly cy)) ∧ (w'.cell? ⟨ga, 0, none⟩ = some (.int .i64 Na) ∧ w'.cell? ⟨ga, 1, none⟩ = some (.slice pa la ca))) ∧ Hid (Below W.heap.size W w')) := fun wx hb => (OK Nz pz lz cz wsz wx tz (mz.below hb)).mono fun e w' q => by
    obtain ⟨ns, q1, q2, q3⟩ := q
    have q4 := bthen hb q3
    exact ⟨by rw [q1, rz ns q2], ⟨(hz.below q4).cells, (hx.below q4).cells, (hy.below q4).cells, (ha.below q4).cells⟩, q4⟩
  have HCx : Hid (∀ wx : World, Below W.heap.size W wx → Calls Try.prog 20 #[.agg #[.int .i64 Nx, .slice px lx cx]] wx fun e w' => e = .returned (.int .i64 (n1 : Int)) ∧ ((w'.cell? ⟨gz, 0, none⟩ = some (.int .i64 Nz) ∧ w'.cell? ⟨gz, 1, none⟩ = some (.slice pz lz cz)) ∧ (w'.cell? ⟨gx, 0, none⟩ = some (.int .i64 Nx) ∧ w'.cell? ⟨gx, 1, none⟩ = some (.slice px lx cx)) ∧ (w'.cell? ⟨gy, 0, none⟩ = some (.int .i64 Ny) ∧ w'.cell? ⟨gy, 1, none⟩ = some (.slice py ly cy)) ∧ (w'.cell? ⟨ga, 0, none⟩ = some (.int .i64 Na) ∧ w'.cell? ⟨ga, 1, none⟩ = some (.slice pa la ca))) ∧ Hid (Below W.heap.size W w')) := fun wx hb => (OK Nx px lx cx wsx wx tx (mx.below hb)).mono fun e w' q => by
    obtain ⟨ns, q1, q2, q3⟩ := q
    have q4 := bthen hb q3
    exact ⟨by rw [q1, rx ns q2], ⟨(hz.below q4).cells, (hx.below q4).cells, (hy.below q4).cells, (ha.below q4).cells⟩, q4⟩
  have HCy : Hid (∀ wx : World, Below W.heap.size W wx → Calls Try.prog 20 #[.agg #[.int .i64 Ny, .slice py ly cy]] wx fun e w' => e = .returned (.int .i64 (n2 : Int)) ∧ ((w'.cell? ⟨gz, 0, none⟩ = some (.int .i64 Nz) ∧ w'.cell? ⟨gz, 1, none⟩ = some (.slice pz lz cz)) ∧ (w'.cell? ⟨gx, 0, none⟩ = some (.int .i64 Nx) ∧ w'.cell? ⟨gx, 1, none⟩ = some (.slice px lx cx)) ∧ (w'.cell? ⟨gy, 0, none⟩ = some (.int .i64 Ny) ∧ w'.cell? ⟨gy, 1, none⟩ = some (.slice py ly cy)) ∧ (w'.cell? ⟨ga, 0, none⟩ = some (.int .i64 Na) ∧ w'.cell? ⟨ga, 1, none⟩ = some (.slice pa la ca))) ∧ Hid (Below W.heap.size W w')) := fun wx hb => (OK Ny py ly cy wsy wx ty (my.below hb)).mono fun e w' q => by
    obtain ⟨ns, q1, q2, q3⟩ := q
    have q4 := bthen hb q3
    exact ⟨by rw [q1, ry ns q2], ⟨(hz.below q4).cells, (hx.below q4).cells, (hy.below q4).cells, (ha.below q4).cells⟩, q4⟩
  have HCa : Hid (∀ wx : World, Below W.heap.size W wx → Calls Try.prog 20 #[.agg #[.int .i64 Na, .slice pa la ca]] wx fun e w' => e = .returned (.int .i64 (n3 : Int)) ∧ ((w'.cell? ⟨gz, 0, none⟩ = some (.int .i64 Nz) ∧ w'.cell? ⟨gz, 1, none⟩ = some (.slice pz lz cz)) ∧ (w'.cell? ⟨gx, 0, none⟩ = some (.int .i64 Nx) ∧ w'.cell? ⟨gx, 1, none⟩ = some (.slice px lx cx)) ∧ (w'.cell? ⟨gy, 0, none⟩ = some (.int .i64 Ny) ∧ w'.cell? ⟨gy, 1, none⟩ = some (.slice py ly cy)) ∧ (w'.cell? ⟨ga, 0, none⟩ = some (.int .i64 Na) ∧ w'.cell? ⟨ga, 1, none⟩ = some (.slice pa la ca))) ∧ Hid (Below W.heap.size W w')) := fun wx hb => (OK Na pa la ca wsa wx ta (ma.below hb)).mono fun e w' q => by
    obtain ⟨ns, q1, q2, q3⟩ := q
    have q4 := bthen hb q3
    exact ⟨by rw [q1, ra ns q2], ⟨(hz.below q4).cells, (hx.below q4).cells, (hy.below q4).cells, (ha.below q4).cells⟩, q4⟩
  obtain ⟨az0, az1⟩ := hz.cells
  obtain ⟨ax0, ax1⟩ := hx.cells
  obtain ⟨ay0, ay1⟩ := hy.cells
  obtain ⟨aa0, aa1⟩ := ha.cells
  have k0 : ((n3 : Int) == (n3 : Int)) = true := by simp
  have hw3 : IntKind.i64.wrap (n3 : Int) = (n3 : Int) := by simp [IntKind.wrap, IntKind.signed, IntKind.bits]; omega
  clear hn1 hn2
  clear hz mz tz rz hx mx tx rx hy my ty ry ha ma ta ra OK
  refine wp_pcOnly ?_
  go_wp2_with fail
  go_region_held3 (fun w' => (w'.cell? ⟨gz, 0, none⟩ = some (.int .i64 Nz) ∧ w'.cell? ⟨gz, 1, none⟩ = some (.slice pz lz cz)) ∧ (w'.cell? ⟨gx, 0, none⟩ = some (.int .i64 Nx) ∧ w'.cell? ⟨gx, 1, none⟩ = some (.slice px lx cx)) ∧ (w'.cell? ⟨gy, 0, none⟩ = some (.int .i64 Ny) ∧ w'.cell? ⟨gy, 1, none⟩ = some (.slice py ly cy)) ∧ (w'.cell? ⟨ga, 0, none⟩ = some (.int .i64 Na) ∧ w'.cell? ⟨ga, 1, none⟩ = some (.slice pa la ca))) (first | go_keep | with_reducible exact hS1 | with_reducible exact hS2 | with_reducible exact hS3 | with_reducible exact hS4)
    (first
    | (go_at_call 20; with_reducible refine Calls.mono (HCz.out _ ?_) ?_; (focus (repeat (first | exact Below.refl _ _ | refine bdr12 ?_))); rintro e w3 ⟨rfl, hS1, hB1⟩)
    | (go_at_call 20; with_reducible refine Calls.mono (HCx.out _ hB1.out) ?_; rintro e w4 ⟨rfl, hS2, hB2⟩)
    | (go_at_call 20; with_reducible refine Calls.mono (HCy.out _ hB2.out) ?_; rintro e w5 ⟨rfl, hS3, hB3⟩)
    | (go_at_call 20; with_reducible refine Calls.mono (HCa.out _ hB3.out) ?_; rintro e w6 ⟨rfl, hS4, hB4⟩))
  all_goals
    exact HN.out w6 _ _ _ _ _ _ _ _ _ _ _ _ _ _ _ _ _ _ _ _ _ _ _ _ hB4.out

end Go.Proofs.Ytfgccldkbolkoaa
