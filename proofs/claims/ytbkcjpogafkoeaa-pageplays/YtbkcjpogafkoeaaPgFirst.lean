/- What strongroomlaw07.first returns: true. -/
import Derived.Test.YtbkcjpogafkoeaaPgOn
import Derived.Test.YtbkcjpogafkoeaaPgLaw
namespace Go.Proofs.Ytbkcjpogafkoeaa
open Go.RowKit

def pf : Pg := ⟨⟨1, 0, 0⟩, 2, 1⟩
def pq : Pg := ⟨⟨1, 0, 0⟩, 2, 2⟩
theorem pf_wf : pf.wf := by unfold Pg.wf Ky.wf i64ok pf; decide
theorem pq_wf : pq.wf := by unfold Pg.wf Ky.wf i64ok pq; decide
theorem pf_r : pf.k.right := by unfold Ky.right pf; decide
theorem PgB.store {w : World} {b : Nat} {p : Pg} (h : PgB w b p) (n : Int) : PgB (w.setCell ⟨b, 4, none⟩ (.int .i64 n)) b ⟨p.k, p.id, n⟩ := by
  have := Blk.store h 4 (.int .i64 n)
  exact this

set_option maxRecDepth 100000 in
set_option maxHeartbeats 8000000 in
theorem pfirst_c (w : World) : Calls Try.prog 8 #[] w fun e w' => e = .returned (.bool true) ∧ Below w.heap.size w w' := by
  go_enter Try.func8, Try.ntmps8
  go_wp2_with fail
  refine (dnew_on w w (Below.refl _ _) 8 (by omega) (by omega)).mono ?_
  rintro e w1 ⟨gd, rfl, hv1, -⟩
  have HV1 := hid hv1
  clear hv1
  go_wp2_with fail
  refine (vnew_on HV1.out).mono ?_
  rintro e w2 ⟨gv, rfl, hv2, -⟩
  have HV2 := hid hv2
  clear hv2 HV1
  have hs2 : (w2.alloc (.cells #[.int .i64 1, .int .i64 0, .int .i64 0, .int .i64 2, .int .i64 1] 41)).heap.size = w2.heap.size + 1 := by simp
  have kc := conv2 w2 (.cells #[.int .i64 1, .int .i64 0, .int .i64 0, .int .i64 2, .int .i64 1] 41) #[.int .u8 120] 1 1
  have HV3 := hid (HV2.out.add (wr' := w2.alloc (.cells #[.int .i64 1, .int .i64 0, .int .i64 0, .int .i64 2, .int .i64 1] 41)) (PV.ok _ _ _ _) ((Below.refl _ _).alloc (Nat.le_refl _) _) (Y := fun x => x = w2.heap.size) (fun x hx => by subst hx; simp))
  have HP3 : Hid (PgB (w2.alloc (.cells #[.int .i64 1, .int .i64 0, .int .i64 0, .int .i64 2, .int .i64 1] 41)) w2.heap.size pf) := hid (Blk.new w2 41 _)
  have hS0 := Sd.new 8
  obtain ⟨p1, p2⟩ := hS0.write (v := Va.new) (p := pf) (j := 3) (by omega) (m := 1) pf_r (by omega) rfl
  have p3 := pwV_ok (v := Va.new) (p := pf) (j := 3) hS0 (by omega) (l := [120]) pf_r (by decide) rfl
  obtain ⟨r1, r2⟩ := p2.hit (v := ⟨[⟨pf.k, besd pf (3 : Nat), [120]⟩], []⟩) (q := pf) (p := pf) (j := 3) (j0 := 3) (hd := 0) (l := [120]) (by omega) (by omega) (upd_same _ _ _) (by omega) rfl rfl pf_wf pf_wf (by omega)
  obtain ⟨r3, -⟩ := p2.hit (v := ⟨[⟨pf.k, besd pf (3 : Nat), [120]⟩], []⟩) (q := pq) (p := pf) (j := 3) (j0 := 3) (hd := 0) (l := [120]) (by omega) (by omega) (upd_same _ _ _) (by omega) rfl rfl pf_wf pq_wf (by omega)
  obtain ⟨r5, r6⟩ := p2.raw (j := 3) (by omega)
  rw [upd_same] at r6
  obtain ⟨r7, r8⟩ := p2.over (j := 4) (l := pad (le8 1)) (by omega) (by rw [pad_le8_len]; omega)
  rw [pad_pad _ (by rw [le8, le_len]; omega)] at r8
  obtain ⟨r9, -⟩ := r8.hit (v := ⟨[⟨pf.k, besd pf (3 : Nat), [120]⟩], []⟩) (q := pf) (p := pf) (j := 4) (j0 := 3) (hd := 0) (l := [120]) (by omega) (by omega) (upd_same _ _ _) (by omega) rfl rfl pf_wf pf_wf (by omega)
  rw [if_pos ⟨rfl, rfl⟩] at r1 r2
  rw [if_neg (by decide)] at r3 r9
  have HW1 : Hid ((pwD (St.new 8) Va.new (3 : Nat) pf 1).W.length ≤ 1) := hid p2.W
  have hwr := fun wx (hx : On w (PV gd (St.new 8) gv Va.new) wx (fun x => False ∨ x = w2.heap.size)) hb => pwrite_on (C := fun P => P) Foc.self hx pf pf_wf ((3 : Nat) : Int) (by unfold i64ok; omega) (some ⟨w2.heap.size + 1, 0, none⟩) 1 1 [120] hb (Nat.zero_le _) (Nat.zero_le _)
  rw [show [(120 : UInt8)].length = 1 from rfl, p1, p3] at hwr
  generalize pwD (St.new 8) Va.new (3 : Nat) pf 1 = d1 at *
  rw [show Va.new.L ++ [(⟨pf.k, besd pf (3 : Nat), [120]⟩ : En)] = [⟨pf.k, besd pf (3 : Nat), [120]⟩] from rfl] at hwr
  generalize hv1 : (⟨[⟨pf.k, besd pf (3 : Nat), [120]⟩], []⟩ : Va) = v1 at *
  have HR1 := hid r1
  have HR2 := hid r2
  have HR3 := hid r3
  have HR5 := hid r5
  have HR6 := hid r6
  have HR7 := hid r7
  have HR9 := hid r9
  have HWR := hid (hwr _ (HV3.out.go (PV.ok _ _ _ _) ((Below.refl _ _).alloc (Nat.le_refl _) (.cells #[.int .u8 120] 5 (1, 2)))) (Bts.lit2 w2 _ 5 [120] _))
  clear p1 p2 p3 r1 r2 r3 r5 r6 r7 r8 r9 hv1 hS0 hwr
  go_wp2_with fail
  refine HWR.out.mono ?_
  rintro e w3 ⟨rfl, hv3, hk3⟩
  have HV4 := hid hv3
  have HP4 : Hid (PgB w3 w2.heap.size pf) := hid (Blk.keep (HP3.out.below (B := w2.heap.size + 1) ((Below.refl _ _).alloc (by rw [hs2]; exact Nat.le_refl _) _) (by omega)) (hk3.2 _ (.inr rfl)))
  clear hv3 hk3 hs2 kc HV2 HV3 HP3 HWR
  generalize w2.heap.size = pb at *
  obtain ⟨c0, c1, c2, c3, c4⟩ := pgB_cells HP4.out
  go_wp2_with fail
  refine (pread_on (C := fun P => P) Foc.self HV4.out pf pf_wf (3 : Nat) (by unfold i64ok; omega)).mono ?_
  rintro e w4 ⟨A4, n4, k4, rfl, ho4, -, hb4⟩
  rw [HR1.out]
  rw [HR2.out] at ho4
  have HV5 := hid (HV4.out.row (PV.ok _ _ _ _) hb4 ho4)
  have HP5 := hid (HP4.out.below hb4 HP4.out.lt)
  have HO5 := hid ho4
  clear c0 c1 c2 c3 c4 hb4 ho4 HV4 HP4
  obtain ⟨c0, c1, c2, c3, c4⟩ := pgB_cells HP5.out
  go_wp2_with fail
  have hb5 : Below w4.heap.size w4 (w4.alloc (.cells #[.int .i64 pf.k.t, .int .i64 pf.k.c, .int .i64 pf.k.e, .int .i64 pf.id, .int .i64 2] 41)) := (Below.refl _ _).alloc (Nat.le_refl _) _
  have HV6 := hid (HV5.out.go (PV.ok _ _ _ _) hb5)
  have HP6 := hid (HP5.out.below hb5 HP5.out.lt)
  have HO6 := hid (own_keep HO5.out fun b hb => hb5.block b (own_lt HO5.out b hb))
  clear c0 c1 c2 c3 c4 hb5 HV5 HP5 HO5
  refine (pread_on (C := fun P => P) Foc.self HV6.out pq pq_wf (3 : Nat) (by unfold i64ok; omega)).mono ?_
  rintro e w6 ⟨A6, n6, k6, rfl, -, -, hb6⟩
  rw [HR3.out]
  have HV7 := hid (HV6.out.go (PV.ok _ _ _ _) hb6)
  have HP7 := hid (HP6.out.below hb6 HP6.out.lt)
  have HO7 := hid (own_keep HO6.out fun b hb => hb6.block b (own_lt HO6.out b hb))
  clear hb6 HV6 HP6 HO6
  go_wp2_with fail
  refine (dread_on (Foc.dv gv v1) HV7.out (3 : Nat)).mono ?_
  rintro e w7 ⟨A7, n7, k7, rfl, ho7, -, hb7⟩
  rw [HR5.out]
  rw [HR6.out] at ho7
  have HV8 := hid (HV7.out.go (PV.ok _ _ _ _) hb7)
  have HP8 := hid (HP7.out.below hb7 HP7.out.lt)
  have HO8 := hid (own_keep HO7.out fun b hb => hb7.block b (own_lt HO7.out b hb))
  have HB8 := hid ((Bts.own ho7).wide (Nat.zero_le _) (Nat.le_refl _))
  obtain ⟨_, _, hf, hc7⟩ := own_form ho7
  injection hf with f1 _ f2
  subst f1 f2
  have hha := handle_c A7 n7 k7 _ w7 HB8.out hc7 (own_cap ho7)
  rw [hOf_le8 _ (by decide)] at hha
  clear hb7 ho7 hc7 HV7 HP7 HO7
  go_wp2_with fail
  refine hha.mono ?_
  rintro e w8 ⟨rfl, rfl⟩
  rw [show ((Va.new.L.length + 1 : Nat) : Int) = 1 from rfl, show decide (0 < Va.new.L.length + 1) = true from rfl]
  clear hha
  go_wp2_with fail
  refine (dover_on (Foc.dv gv v1) HV8.out (4 : Nat) A7 n7 k7 _ HB8.out (Nat.le_trans HW1.out (by decide))).mono ?_
  rintro e w9 ⟨rfl, hv9, hk9⟩
  have HV9 := hid hv9
  have HP9 : Hid (PgB w9 pb pf) := hid (Blk.keep HP8.out (hk9.2 _ (.inl (.inr rfl))))
  have HO9 := hid (own_keep HO8.out fun b hb => hk9.2 b (.inr hb))
  clear hv9 hk9 HV8 HP8 HO8 HB8
  obtain ⟨c0, c1, c2, c3, c4⟩ := pgB_cells HP9.out
  go_wp2_with fail
  refine (pread_on (C := fun P => P) Foc.self HV9.out pf pf_wf (4 : Nat) (by unfold i64ok; omega)).mono ?_
  rintro e w10 ⟨A10, n10, k10, rfl, -, -, hb10⟩
  rw [show prE (ovS d1 ((4 : Nat) : Int) (pad (le8 (Va.new.L.length + 1)))) v1 ((4 : Nat) : Int) pf = 51 from HR9.out]
  have HV10 := hid (HV9.out.go (PV.ok _ _ _ _) hb10)
  have hst := own_str (own_keep HO9.out fun b hb => hb10.block b (own_lt HO9.out b hb))
  have hsl : (str [120]).toList = [120] := str_list _
  clear c0 c1 c2 c3 c4 hb10 HV9 HP9 HO9
  go_wp2
  go_ret
  exact ⟨rfl, HV10.out.below⟩
end Go.Proofs.Ytbkcjpogafkoeaa
