/- What strongroomlaw08.first returns: true. -/
import Derived.Test.YtocmgdhgimpfhaaRtGet
namespace Go.Proofs.Ytocmgdhgimpfhaa
open Go.RowKit

theorem tc_new {w wr : World} {gd gv : Nat} {d : St} {v : Va} {X : Nat → Prop} (h : On w (PV gd d gv v) wr X) : On w (TC gd d gv v wr.heap.size ⟨0, 0⟩) (wr.alloc (.cells #[.int .i64 0, .int .i64 0] 33)) X ∧ Stay X wr (wr.alloc (.cells #[.int .i64 0, .int .i64 0] 33)) := by
  have hb : Below wr.heap.size wr (wr.alloc (.cells #[.int .i64 0, .int .i64 0] 33)) := (Below.refl _ _).alloc (Nat.le_refl _) _
  exact ⟨h.with_ (PV.ok _ _ _ _) (Q := CeO wr.heap.size ⟨0, 0⟩) (G := fun j => j = wr.heap.size) ⟨Blk.new wr 33 _, fun j => Iff.rfl⟩ hb (fun j hj => by subst hj; exact Nat.le_refl _), h.stay hb⟩
/-- The device, the vault and the cell of the example. -/
theorem first_facts : ∃ d1 v1 d2 v2, (ptE (St.new 4) Va.new ⟨0, 0⟩ 1 = 0 ∧ ptD (St.new 4) Va.new ⟨0, 0⟩ 1 = d1 ∧ ptV (St.new 4) Va.new ⟨0, 0⟩ [97] = v1 ∧ ptC (St.new 4) Va.new ⟨0, 0⟩ 1 = ⟨1, 1⟩) ∧ (d1.W.length ≤ 10 ∧ v1.L.length ≤ 10) ∧
    (ptE (d1.bound 1) v1 ⟨1, 1⟩ 1 = 40 ∧ ptD (d1.bound 1) v1 ⟨1, 1⟩ 1 = d2 ∧ ptV (d1.bound 1) v1 ⟨1, 1⟩ [98] = v2 ∧ ptC (d1.bound 1) v1 ⟨1, 1⟩ 1 = ⟨1, 1⟩) ∧ d2.W.length ≤ 10 ∧ gtE (d2.crash [true]) v2 ⟨1, 1⟩ = 0 ∧ gtB (d2.crash [true]) v2 ⟨1, 1⟩ = [97] := by
  have r0 := Rt.new (n := 4) (by omega) []
  obtain ⟨a1, a2, a3⟩ := pt_none (d := St.new 4) (v := Va.new) (c := ⟨0, 0⟩) (by decide) rfl (l := [97]) (by decide) rfl
  have a3' : ptC (St.new 4) Va.new ⟨0, 0⟩ [(97 : UInt8)].length = ⟨1, 1⟩ := a3
  have r1 : Rt (ptD (St.new 4) Va.new ⟨0, 0⟩ [(97 : UInt8)].length) (ptV (St.new 4) Va.new ⟨0, 0⟩ [97]) ⟨1, 1⟩ [97] false := by
    rcases r0.put (by decide) (l := [97]) (by decide) with ⟨_, h2, _⟩ | ⟨h1, _, _⟩
    · rw [a3'] at h2; exact h2
    · rw [a1] at h1; cases h1
  have w1 := ptD_W (St.new 4) Va.new ⟨0, 0⟩ [(97 : UInt8)].length
  have v1L := (ptV_L (St.new 4) Va.new ⟨0, 0⟩ [97]).1
  have hl1 : (ptD (St.new 4) Va.new ⟨0, 0⟩ [(97 : UInt8)].length).n = 4 := ptD_n _ _ _ _
  have s0 : (St.new 4).W.length = 0 := rfl
  have s1 : Va.new.L.length = 0 := rfl
  obtain ⟨d1, hd1⟩ : ∃ d1, ptD (St.new 4) Va.new ⟨0, 0⟩ [(97 : UInt8)].length = d1 := ⟨_, rfl⟩
  obtain ⟨v1, hv1⟩ : ∃ v1, ptV (St.new 4) Va.new ⟨0, 0⟩ [97] = v1 := ⟨_, rfl⟩
  rw [hd1] at r1 w1 hl1
  rw [hv1] at r1 v1L
  have b1 := pt_one (d := d1.bound 1) (v := v1) (c := ⟨1, 1⟩) (by show 2 ≤ d1.n; omega) r1.G (l := [98]) (by decide) rfl
  have r2 := r1.bound 1
  rcases r2.put (by omega) (l := [98]) (by decide) with ⟨h1, _, _⟩ | ⟨_, h2, h3⟩
  · rw [b1] at h1; cases h1
  rw [h3] at h2
  have w2 := ptD_W (d1.bound 1) v1 ⟨1, 1⟩ [(98 : UInt8)].length
  have v2L := (ptV_L (d1.bound 1) v1 ⟨1, 1⟩ [98]).1
  have s2 : (d1.bound 1).W.length = d1.W.length := rfl
  have hg : gtE ((ptD (d1.bound 1) v1 ⟨1, 1⟩ [(98 : UInt8)].length).crash [true]) (ptV (d1.bound 1) v1 ⟨1, 1⟩ [98]) ⟨1, 1⟩ = 0 ∧ gtB ((ptD (d1.bound 1) v1 ⟨1, 1⟩ [(98 : UInt8)].length).crash [true]) (ptV (d1.bound 1) v1 ⟨1, 1⟩ [98]) ⟨1, 1⟩ = [97] := by
    rcases (h2.crash [true]).got (by omega) (by decide) with h | ⟨_, h⟩ | ⟨_, h⟩
    · exact h
    · cases h
    · cases h
  exact ⟨d1, v1, ptD (d1.bound 1) v1 ⟨1, 1⟩ [(98 : UInt8)].length, ptV (d1.bound 1) v1 ⟨1, 1⟩ [98], ⟨a1, hd1, hv1, a3'⟩, ⟨by omega, by omega⟩, ⟨b1, rfl, rfl, h3⟩, by omega, hg.1, hg.2⟩

set_option maxRecDepth 100000 in
set_option maxHeartbeats 8000000 in
theorem rtfirst_c (w : World) : Calls Try.prog 7 #[] w fun e w' => e = .returned (.bool true) ∧ Below w.heap.size w w' := by
  obtain ⟨d1, v1, d2, v2, ⟨a1, a2, a3, a4⟩, ⟨a5, a6⟩, ⟨b1, b2, b3, b4⟩, b5, g1, g2⟩ := first_facts
  have A := hid (And.intro a1 (And.intro a2 (And.intro a3 a4)))
  have A2 := hid (And.intro a5 a6)
  have B := hid (And.intro b1 (And.intro b2 (And.intro b3 b4)))
  have B2 := hid b5
  have G := hid (And.intro g1 g2)
  clear a1 a2 a3 a4 a5 a6 b1 b2 b3 b4 b5 g1 g2
  go_enter Try.func7, Try.ntmps7
  go_wp2_with fail
  refine (dnew_on w w (Below.refl _ _) 4 (by omega) (by omega)).mono ?_
  rintro e w1 ⟨gd, rfl, hv1, -⟩
  have HV1 := hid hv1
  clear hv1
  go_wp2_with fail
  refine (vnew_on HV1.out).mono ?_
  rintro e w2 ⟨gv, rfl, hv2, -⟩
  have HV3 := hid (tc_new hv2).1
  clear hv2 HV1
  go_wp2_with fail
  generalize w2.heap.size = gc at *
  generalize w2.alloc (.cells #[.int .i64 0, .int .i64 0] 33) = w3 at *
  refine (get_on Foc.self (fun _ h => h) HV3.out (by decide) (by decide)).mono ?_
  rintro e w4 ⟨A4, n4, k4, rfl, -, -, hb4⟩
  rw [show gtE (St.new 4) Va.new ⟨0, 0⟩ = 90 from rfl]
  have HV4 := hid (HV3.out.go (TC.ok _ _ _ _ _ _) hb4)
  have kc := conv1 w4 #[.int .u8 97] 1 1
  have hwr := put_on (C := fun P => P) (w := w) (gd := gd) (gv := gv) (gc := gc) Foc.self (fun _ h => h) (HV4.out.go (TC.ok _ _ _ _ _ _) ((Below.refl _ _).alloc (Nat.le_refl _) (.cells #[.int .u8 97] 5 (1, 2)))) _ 1 1 [97] (Bts.lit1 w4 5 [97] _) (Nat.zero_le _) (Nat.zero_le _) (Nat.zero_le _)
  rw [show [(97 : UInt8)].length = 1 from rfl, A.out.1, A.out.2.1, A.out.2.2.1, A.out.2.2.2] at hwr
  have HWR := hid hwr
  clear hwr hb4 HV3
  go_wp2_with fail
  refine HWR.out.mono ?_
  rintro e w5 ⟨rfl, hv5, -⟩
  have HV5 := hid hv5
  clear hv5 HWR HV4 kc
  go_wp2_with fail
  refine (dlimit_on (tc_d gv v1 gc ⟨1, 1⟩) HV5.out 1 (by decide)).mono ?_
  rintro e w6 ⟨rfl, hv6, -⟩
  have HV6 := hid hv6
  clear hv6 HV5
  have kc := conv1 w6 #[.int .u8 98] 1 1
  have hwr := put_on (C := fun P => P) (w := w) (gd := gd) (gv := gv) (gc := gc) (d := d1.bound 1) (v := v1) (c := ⟨1, 1⟩) Foc.self (fun _ h => h) (On.go HV6.out (TC.ok gd (d1.bound 1) gv v1 gc ⟨1, 1⟩) ((Below.refl _ _).alloc (Nat.le_refl _) (.cells #[.int .u8 98] 5 (1, 2)))) _ 1 1 [98] (Bts.lit1 w6 5 [98] _) (Nat.le_trans A2.out.1 (by decide)) (Nat.le_trans A2.out.2 (by decide)) (by decide)
  rw [show [(98 : UInt8)].length = 1 from rfl, B.out.1, B.out.2.1, B.out.2.2.1, B.out.2.2.2] at hwr
  have HWR := hid hwr
  clear hwr
  go_wp2_with fail
  refine HWR.out.mono ?_
  rintro e w7 ⟨rfl, hv7, -⟩
  have HV7 := hid hv7
  clear hv7 HWR HV6 kc
  have hb8 : Below w7.heap.size w7 (w7.alloc (.cells #[.bool true] 4)) := (Below.refl _ _).alloc (Nat.le_refl _) _
  have hv8 := HV7.out.add (TC.ok _ _ _ _ _ _) hb8 (Y := fun x => x = w7.heap.size) (fun x hx => by subst hx; simp)
  have HV8 := hid hv8
  have hls : Lst (w7.alloc (.cells #[.bool true] 4)) 0 (w7.alloc (.cells #[.bool true] 4)).heap.size (some ⟨w7.heap.size, 0, none⟩) 1 ([true].map Value.bool) := ⟨rfl, fun _ => ⟨w7.heap.size, 0, rfl, Nat.zero_le _, by simp, fun j u hu => by
    have := (Blk.new w7 4 #[.bool true]).cell j
    rw [Nat.zero_add, this]
    simpa using hu⟩⟩
  have HLS := hid hls
  clear hb8 hv8 hls HV7
  go_wp2_with fail
  refine (dcrash_on (tc_d gv v2 gc ⟨1, 1⟩) HV8.out _ 1 1 [true] HLS.out (fun _ x hx => by injection hx with hx; exact .inl (.inr hx.symm)) (Nat.le_trans B2.out (by decide))).mono ?_
  rintro e w9 ⟨rfl, hv9, -⟩
  have HV9 := hid hv9
  clear hv9 HV8 HLS
  go_wp2_with fail
  refine (get_on (C := fun P => P) (d := d2.crash [true]) (v := v2) (c := ⟨1, 1⟩) Foc.self (fun _ h => h) HV9.out (by decide) (by decide)).mono ?_
  rintro e w10 ⟨A10, n10, k10, rfl, ho10, -, hb10⟩
  rw [G.out.1]
  rw [G.out.2] at ho10
  have HV10 := hid (On.go HV9.out (TC.ok gd (d2.crash [true]) gv v2 gc ⟨1, 1⟩) hb10)
  have hst := own_str ho10 (c := k10)
  have hsl : (str [97]).toList = [97] := str_list _
  clear ho10 hb10 HV9
  go_wp2_with fail
  refine (cver_c (tc_c gd (d2.crash [true]) gv v2) HV10.out).mono ?_
  rintro e w11 ⟨rfl, rfl⟩
  go_wp2
  go_ret
  exact ⟨rfl, HV10.out.below⟩
end Go.Proofs.Ytocmgdhgimpfhaa
