/- The walk of PageBinds: it answers true, whatever the input. -/
import Derived.Test.YtbkcjpogafkoeaaPgFirst
import Derived.Test.YtbkcjpogafkoeaaFrame
import Derived.Test.YtbkcjpogafkoeaaFrameS
namespace Go.Proofs.Ytbkcjpogafkoeaa
open Go.RowKit

theorem rem16 {x : Int} (h1 : 0 ≤ x) (_h2 : x < 256) : ∃ m : Nat, m < 16 ∧ x % 16 = (m : Int) ∧ Int.tmod x 16 = (m : Int) := by
  refine ⟨(x % 16).toNat, by omega, by omega, ?_⟩
  rw [Int.tmod_eq_emod_of_nonneg h1]
  omega
theorem Blk.pre {w w' : World} {g : Nat} {t : TypeId} {cs : Array Value} (h : Blk w g t cs) (hb : Below w.heap.size w w') : Blk w' g t cs := h.keep (hb.block g h.lt)

set_option maxRecDepth 100000 in
set_option maxHeartbeats 8000000 in
theorem walkPageBinds (p q : Pg) (x0 x1 : Int) (w : World) (hp : p.wf) (hq : q.wf) (w0 : (Lit.int .u8 x0).wf = true) (w1 : (Lit.int .u8 x1).wf = true) :
    Calls Try.prog 4 #[(.agg #[.int .i64 (p).k.t, .int .i64 (p).k.c, .int .i64 (p).k.e, .int .i64 (p).id, .int .i64 (p).ver]), (.agg #[.int .i64 (q).k.t, .int .i64 (q).k.c, .int .i64 (q).k.e, .int .i64 (q).id, .int .i64 (q).ver]), .agg #[.int .u8 x0, .int .u8 x1]] w fun e w' => e = .returned (.bool true) ∧ Below w.heap.size w w' := by
  obtain ⟨a, ha, ra1, ra2⟩ := rem16 (wf_u8 w0).1 (wf_u8 w0).2
  obtain ⟨b, hb, rb1, rb2⟩ := rem16 (wf_u8 w1).1 (wf_u8 w1).2
  have hs1 : (w.alloc (.cells #[.int .i64 p.k.t, .int .i64 p.k.c, .int .i64 p.k.e, .int .i64 p.id, .int .i64 p.ver] 41)).heap.size = w.heap.size + 1 := by simp
  have hs2 : ((w.alloc (.cells #[.int .i64 p.k.t, .int .i64 p.k.c, .int .i64 p.k.e, .int .i64 p.id, .int .i64 p.ver] 41)).alloc (.cells #[.int .i64 q.k.t, .int .i64 q.k.c, .int .i64 q.k.e, .int .i64 q.id, .int .i64 q.ver] 41)).heap.size = w.heap.size + 1 + 1 := by simp
  have b1 : Blk (((w.alloc (.cells #[.int .i64 p.k.t, .int .i64 p.k.c, .int .i64 p.k.e, .int .i64 p.id, .int .i64 p.ver] 41)).alloc (.cells #[.int .i64 q.k.t, .int .i64 q.k.c, .int .i64 q.k.e, .int .i64 q.id, .int .i64 q.ver] 41)).alloc (.cells #[.int .u8 x0, .int .u8 x1] 63)) w.heap.size 41 _ := (Blk.new w 41 #[.int .i64 p.k.t, .int .i64 p.k.c, .int .i64 p.k.e, .int .i64 p.id, .int .i64 p.ver]).pre (((Below.refl _ _).alloc (Nat.le_refl _) _).alloc (by omega) _)
  have b2 : Blk (((w.alloc (.cells #[.int .i64 p.k.t, .int .i64 p.k.c, .int .i64 p.k.e, .int .i64 p.id, .int .i64 p.ver] 41)).alloc (.cells #[.int .i64 q.k.t, .int .i64 q.k.c, .int .i64 q.k.e, .int .i64 q.id, .int .i64 q.ver] 41)).alloc (.cells #[.int .u8 x0, .int .u8 x1] 63)) (w.alloc (.cells #[.int .i64 p.k.t, .int .i64 p.k.c, .int .i64 p.k.e, .int .i64 p.id, .int .i64 p.ver] 41)).heap.size 41 _ := (Blk.new (w.alloc (.cells #[.int .i64 p.k.t, .int .i64 p.k.c, .int .i64 p.k.e, .int .i64 p.id, .int .i64 p.ver] 41)) 41 #[.int .i64 q.k.t, .int .i64 q.k.c, .int .i64 q.k.e, .int .i64 q.id, .int .i64 q.ver]).pre ((Below.refl _ _).alloc (Nat.le_refl _) _)
  have b3 := Blk.new ((w.alloc (.cells #[.int .i64 p.k.t, .int .i64 p.k.c, .int .i64 p.k.e, .int .i64 p.id, .int .i64 p.ver] 41)).alloc (.cells #[.int .i64 q.k.t, .int .i64 q.k.c, .int .i64 q.k.e, .int .i64 q.id, .int .i64 q.ver] 41)) 63 #[.int .u8 x0, .int .u8 x1]
  rw [hs1] at b2
  rw [hs2] at b3
  have hb0 : Below w.heap.size w (((w.alloc (.cells #[.int .i64 p.k.t, .int .i64 p.k.c, .int .i64 p.k.e, .int .i64 p.id, .int .i64 p.ver] 41)).alloc (.cells #[.int .i64 q.k.t, .int .i64 q.k.c, .int .i64 q.k.e, .int .i64 q.id, .int .i64 q.ver] 41)).alloc (.cells #[.int .u8 x0, .int .u8 x1] 63)) := (((Below.refl _ _).alloc (Nat.le_refl _) _).alloc (by omega) _).alloc (by omega) _
  have hf := pfirst_c (((w.alloc (.cells #[.int .i64 p.k.t, .int .i64 p.k.c, .int .i64 p.k.e, .int .i64 p.id, .int .i64 p.ver] 41)).alloc (.cells #[.int .i64 q.k.t, .int .i64 q.k.c, .int .i64 q.k.e, .int .i64 q.id, .int .i64 q.ver] 41)).alloc (.cells #[.int .u8 x0, .int .u8 x1] 63))
  obtain ⟨m1, m2, hm1, hm2, hM⟩ := min3 p.k
  have HP := hid hp
  have HQ := hid hq
  have HA := hid ha
  have HB := hid hb
  have HM := hid hM
  have B1 := hid b1
  have B2 := hid b2
  have B3 := hid b3
  have HB0 := hid hb0
  have heq := eq_page p q
  clear hp hq ha hb hM b1 b2 b3 hb0 hs1 hs2 w0 w1
  go_enter Try.func4, Try.ntmps4
  go_wp2_with fail
  refine hf.mono ?_
  rintro e v1 ⟨rfl, hb1⟩
  have HB1 := hid (HB0.out.trans (hb1.mono HB0.out.size))
  have P1 : Hid (PgB v1 w.heap.size p) := hid (B1.out.pre hb1)
  have Q1 : Hid (PgB v1 (w.heap.size + 1) q) := hid (B2.out.pre hb1)
  have A1 := hid (B3.out.pre hb1)
  clear hf hb1 HB0 B1 B2 B3
  obtain ⟨c0, c1, c2, c3, c4⟩ := pgB_cells P1.out
  by_cases hr : ¬ p.k.right
  · have e1 : decide (m2 < 0) = true := by have := HM.out.2 hr; simpa using this
    clear hr
    go_wp2
    go_ret
    exact ⟨rfl, HB1.out⟩
  have hr := Classical.byContradiction hr
  have e1 : decide (m2 < 0) = false := by
    have : ¬ m2 < 0 := fun e => HM.out.1 e hr
    simpa using this
  have HR := hid hr
  clear hr
  go_wp2_with fail
  clear c0 c1 c2 c3 c4 e1 hm1 hm2
  refine (dnew_onX w v1 HB1.out 16 (by omega) (by omega) (fun x => x = w.heap.size ∨ x = w.heap.size + 1 ∨ x = w.heap.size + 1 + 1) (fun x hx => by
    have h1 := P1.out.lt
    have h2 := Q1.out.lt
    have h3 := A1.out.lt
    rcases hx with rfl | rfl | rfl <;> omega)).mono ?_
  rintro e v2 ⟨gd, rfl, hv2, hk2⟩
  have HV2 := hid hv2
  have P2 : Hid (PgB v2 w.heap.size p) := hid (Blk.keep P1.out (hk2.2 _ (.inl rfl)))
  have Q2 : Hid (PgB v2 (w.heap.size + 1) q) := hid (Blk.keep Q1.out (hk2.2 _ (.inr (.inl rfl))))
  have A2 := hid (A1.out.keep (hk2.2 _ (.inr (.inr rfl))))
  clear hv2 hk2 HB1 P1 Q1 A1
  go_wp2_with fail
  refine (vnew_on HV2.out).mono ?_
  rintro e v3 ⟨gv, rfl, hv3, hk3⟩
  have HV3d := hid (hv3.go (PV.ok _ _ _ _) ((Below.refl _ _).drew))
  have P3 : Hid (PgB v3.drew w.heap.size p) := hid (Blk.keep P2.out (hk3.2 _ (.inl rfl)))
  have Q3 : Hid (PgB v3.drew (w.heap.size + 1) q) := hid (Blk.keep Q2.out (hk3.2 _ (.inr (.inl rfl))))
  have A3 : Hid (Blk v3.drew (w.heap.size + 1 + 1) 63 #[.int .u8 x0, .int .u8 x1]) := hid (A2.out.keep (hk3.2 _ (.inr (.inr rfl))))
  clear hv3 hk3 HV2 P2 Q2 A2
  have u1 : IntKind.u8.wrap (a : Int) = (a : Int) := by rw [IntKind.wrap_u8']; have := HA.out; omega
  have u2 : IntKind.u8.wrap (b : Int) = (b : Int) := by rw [IntKind.wrap_u8']; have := HB.out; omega
  have u3 : IntKind.i64.wrap (a : Int) = (a : Int) := IntWalk.i64_in _ (by have := HA.out; omega)
  have u4 : IntKind.i64.wrap (b : Int) = (b : Int) := IntWalk.i64_in _ (by have := HB.out; omega)
  go_wp2_with fail
  refine wp_region_held_drew (S := fun wx => wx.cell? ⟨w.heap.size + 1 + 1, 0, none⟩ = some (.int .u8 x0) ∧ wx.cell? ⟨w.heap.size + 1 + 1, 1, none⟩ = some (.int .u8 x1)) (by kernel_rfl) ⟨(Blk.cell A3.out 0).trans rfl, (Blk.cell A3.out 1).trans rfl⟩ (fun HS => ?_)
  have HV4 := HV3d
  clear HV3d
  generalize v3.drew = v4 at *
  refine wpAnyH_take (i := 0) (oi := ?oi0) (v := ?v0) ?hi0 (by kernel_rfl) (by kernel_rfl) (by kernel_rfl) ?hQ0 ?hy0 HS ?rest0
  case hi0 => simp only [List.getElem?_toArray, List.getElem?_cons_zero]; exact rfl
  case hQ0 => exact fun _ _ _ h => h
  case hy0 =>
    refine Or.inl ⟨by rfl, ?_⟩
    intro wS hSw
    go_simp
    try with_reducible rfl
  try simp only [Act.put, List.setIfInBounds_toArray, List.set_cons_zero, List.set_cons_succ]
  refine wpAnyH_take (i := 1) (oi := ?oi1) (v := ?v1) ?hi1 (by kernel_rfl) (by kernel_rfl) (by kernel_rfl) ?hQ1 ?hy1 HS ?rest1
  case hi1 => simp only [List.getElem?_toArray, List.getElem?_cons_succ, List.getElem?_cons_zero]; exact rfl
  case hQ1 => exact fun _ _ _ h => h
  case hy1 =>
    refine Or.inl ⟨by rfl, ?_⟩
    intro wS hSw
    go_simp
    try with_reducible rfl
  try simp only [Act.put, List.setIfInBounds_toArray, List.set_cons_zero, List.set_cons_succ]
  refine wpAnyH_take (i := 2) (oi := ?oi2) (v := ?v2) ?hi2 (by kernel_rfl) (by kernel_rfl) (by kernel_rfl) ?hQ2 ?hy2 HS ?rest2
  case hi2 => simp only [List.getElem?_toArray, List.getElem?_cons_succ, List.getElem?_cons_zero]; exact rfl
  case hQ2 => exact fun _ _ _ h => h
  case hy2 =>
    refine Or.inl ⟨by rfl, ?_⟩
    intro wS hSw
    go_simp
    try with_reducible rfl
  try simp only [Act.put, List.setIfInBounds_toArray, List.set_cons_zero, List.set_cons_succ]
  refine wpAnyH_take (i := 3) (oi := ?oi3) (v := ?v3) ?hi3 (by kernel_rfl) (by kernel_rfl) (by kernel_rfl) ?hQ3 ?hy3 HS ?rest3
  case hi3 => simp only [List.getElem?_toArray, List.getElem?_cons_succ, List.getElem?_cons_zero]; exact rfl
  case hQ3 => exact fun _ _ _ h => h
  case hy3 =>
    refine Or.inl ⟨by rfl, ?_⟩
    intro wS hSw
    go_simp
    try with_reducible rfl
  try simp only [Act.put, List.setIfInBounds_toArray, List.set_cons_zero, List.set_cons_succ]
  refine wpAnyH_take (i := 4) (oi := ?oi4) (v := ?v4) ?hi4 (by kernel_rfl) (by kernel_rfl) (by kernel_rfl) ?hQ4 ?hy4 HS ?rest4
  case hi4 => simp only [List.getElem?_toArray, List.getElem?_cons_succ, List.getElem?_cons_zero]; exact rfl
  case hQ4 => exact fun _ _ _ h => h
  case hy4 =>
    refine Or.inl ⟨by rfl, ?_⟩
    intro wS hSw
    go_simp
    try with_reducible rfl
  try simp only [Act.put, List.setIfInBounds_toArray, List.set_cons_zero, List.set_cons_succ]
  refine wpAnyH_take (i := 5) (oi := ?oi5) (v := ?v5) ?hi5 (by kernel_rfl) (by kernel_rfl) (by kernel_rfl) ?hQ5 ?hy5 HS ?rest5
  case hi5 => simp only [List.getElem?_toArray, List.getElem?_cons_succ, List.getElem?_cons_zero]; exact rfl
  case hQ5 => exact fun _ _ _ h => h
  case hy5 =>
    refine Or.inl ⟨by rfl, ?_⟩
    intro wS hSw
    go_simp
    try with_reducible rfl
  try simp only [Act.put, List.setIfInBounds_toArray, List.set_cons_zero, List.set_cons_succ]
  refine wpAnyH_take (i := 6) (oi := ?oi6) (v := ?v6) ?hi6 (by kernel_rfl) (by kernel_rfl) (by kernel_rfl) ?hQ6 ?hy6 HS ?rest6
  case hi6 => simp only [List.getElem?_toArray, List.getElem?_cons_succ, List.getElem?_cons_zero]; exact rfl
  case hQ6 => exact fun _ _ _ h => h
  case hy6 =>
    refine Or.inl ⟨by rfl, ?_⟩
    intro wS hSw
    go_simp
    try with_reducible rfl
  try simp only [Act.put, List.setIfInBounds_toArray, List.set_cons_zero, List.set_cons_succ]
  refine wpAnyH_take (i := 7) (oi := ?oi7) (v := ?v7) ?hi7 (by kernel_rfl) (by kernel_rfl) (by kernel_rfl) ?hQ7 ?hy7 HS ?rest7
  case hi7 => simp only [List.getElem?_toArray, List.getElem?_cons_succ, List.getElem?_cons_zero]; exact rfl
  case hQ7 => exact fun _ _ _ h => h
  case hy7 =>
    refine Or.inl ⟨by rfl, ?_⟩
    intro wS hSw
    go_simp
    try with_reducible rfl
  try simp only [Act.put, List.setIfInBounds_toArray, List.set_cons_zero, List.set_cons_succ]
  refine wpAnyH_take (i := 8) (oi := ?oi8) (v := ?v8) ?hi8 (by kernel_rfl) (by kernel_rfl) (by kernel_rfl) ?hQ8 ?hy8 HS ?rest8
  case hi8 => simp only [List.getElem?_toArray, List.getElem?_cons_succ, List.getElem?_cons_zero]; exact rfl
  case hQ8 => exact fun _ _ _ h => h
  case hy8 =>
    refine Or.inl ⟨by rfl, ?_⟩
    intro wS hSw
    go_simp
    try with_reducible rfl
  try simp only [Act.put, List.setIfInBounds_toArray, List.set_cons_zero, List.set_cons_succ]
  refine wpAnyH_take (i := 9) (oi := ?oi9) (v := ?v9) ?hi9 (by kernel_rfl) (by kernel_rfl) (by kernel_rfl) ?hQ9 ?hy9 HS ?rest9
  case hi9 => simp only [List.getElem?_toArray, List.getElem?_cons_succ, List.getElem?_cons_zero]; exact rfl
  case hQ9 => exact fun _ _ _ h => h
  case hy9 =>
    refine Or.inl ⟨by rfl, ?_⟩
    intro wS hSw
    go_simp
    try with_reducible rfl
  try simp only [Act.put, List.setIfInBounds_toArray, List.set_cons_zero, List.set_cons_succ]
  refine wpAnyH_done (by kernel_rfl) ?_ _
  clear u1 u2 u3 u4 ra1 ra2 rb1 rb2 A3
  have hS0 := Sd.new 16
  obtain ⟨p1, p2⟩ := hS0.write (v := Va.new) (p := p) (j := a) HA.out (m := 5) HR.out (by omega) rfl
  have p3 := pwV_ok (v := Va.new) (p := p) (j := a) hS0 HA.out (l := [112, 108, 97, 105, 110]) HR.out (by decide) rfl
  obtain ⟨r1, r2⟩ := p2.hit (v := ⟨[⟨p.k, besd p (a : Int), [112, 108, 97, 105, 110]⟩], []⟩) (q := p) (p := p) (j := a) (j0 := a) (hd := 0) (l := [112, 108, 97, 105, 110]) HA.out (by omega) (upd_same _ _ _) (by omega) rfl rfl HP.out HP.out (by have := HA.out; omega)
  obtain ⟨r5, r6⟩ := p2.raw (j := a) HA.out
  rw [upd_same] at r6
  obtain ⟨r7, r8⟩ := p2.over (j := b) (l := pad (le8 (Va.new.L.length + 1))) HB.out (by rw [pad_le8_len]; omega)
  rw [pad_pad _ (by rw [le8, le_len]; omega)] at r8
  obtain ⟨r9, r10⟩ := r8.hit (v := ⟨[⟨p.k, besd p (a : Int), [112, 108, 97, 105, 110]⟩], []⟩) (q := q) (p := p) (j := b) (j0 := a) (hd := 0) (l := [112, 108, 97, 105, 110]) HB.out (by omega) (upd_same _ _ _) (by omega) rfl rfl HP.out HQ.out (by have := HA.out; omega)
  rw [if_pos ⟨rfl, rfl⟩] at r1 r2
  have HW1 : Hid ((pwD (St.new 16) Va.new (a : Int) p 5).W.length ≤ 1) := hid p2.W
  have hia : i64ok (a : Int) := ⟨by omega, by have := HA.out; omega⟩
  have hib : i64ok (b : Int) := ⟨by omega, by have := HB.out; omega⟩
  have hwr := fun wx (hx : On w (PV gd (St.new 16) gv Va.new) wx (fun x => x = w.heap.size ∨ x = w.heap.size + 1 ∨ x = w.heap.size + 1 + 1)) y hb => pwrite_on (C := fun P => P) Foc.self hx p HP.out (a : Int) hia (some ⟨y, 0, none⟩) 5 5 [112, 108, 97, 105, 110] hb (Nat.zero_le _) (Nat.zero_le _)
  rw [show ([112, 108, 97, 105, 110] : List UInt8).length = 5 from rfl, p1, p3] at hwr
  generalize pwD (St.new 16) Va.new (a : Int) p 5 = d1 at *
  rw [show Va.new.L ++ [(⟨p.k, besd p (a : Int), [112, 108, 97, 105, 110]⟩ : En)] = [⟨p.k, besd p (a : Int), [112, 108, 97, 105, 110]⟩] from rfl] at hwr
  generalize hv1 : (⟨[⟨p.k, besd p (a : Int), [112, 108, 97, 105, 110]⟩], []⟩ : Va) = va at *
  have HR1 := hid r1
  have HR2 := hid r2
  have HR5 := hid r5
  have HR6 := hid r6
  have HR9 := hid r9
  have HR10 := hid r10
  have HIA := hid hia
  have HIB := hid hib
  have kc := conv1 v4 #[.int .u8 112, .int .u8 108, .int .u8 97, .int .u8 105, .int .u8 110] 5 5
  have HWR := hid (hwr _ (HV4.out.go (PV.ok _ _ _ _) ((Below.refl _ _).alloc (Nat.le_refl _) (.cells #[.int .u8 112, .int .u8 108, .int .u8 97, .int .u8 105, .int .u8 110] 5 (5, 6)))) _ (Bts.lit1 v4 5 [112, 108, 97, 105, 110] _))
  have P4 : Hid (PgB (v4.alloc (.cells #[.int .u8 112, .int .u8 108, .int .u8 97, .int .u8 105, .int .u8 110] 5 (5, 6))) w.heap.size p) := hid (Blk.pre P3.out ((Below.refl _ _).alloc (Nat.le_refl _) _))
  have Q4 : Hid (PgB (v4.alloc (.cells #[.int .u8 112, .int .u8 108, .int .u8 97, .int .u8 105, .int .u8 110] 5 (5, 6))) (w.heap.size + 1) q) := hid (Blk.pre Q3.out ((Below.refl _ _).alloc (Nat.le_refl _) _))
  clear p1 p2 p3 r1 r2 r5 r6 r7 r8 r9 r10 hv1 hS0 hwr hia hib
  obtain ⟨c0, c1, c2, c3, c4⟩ := pgB_cells P3.out
  go_wp2_with fail
  refine HWR.out.mono ?_
  rintro e v5 ⟨rfl, hv5, hk5⟩
  have HV5 := hid hv5
  have P5 : Hid (PgB v5 w.heap.size p) := hid (Blk.keep P4.out (hk5.2 _ (.inl rfl)))
  have Q5 : Hid (PgB v5 (w.heap.size + 1) q) := hid (Blk.keep Q4.out (hk5.2 _ (.inr (.inl rfl))))
  clear hv5 hk5 HV4 P3 Q3 P4 Q4 HWR kc c0 c1 c2 c3 c4
  obtain ⟨c0, c1, c2, c3, c4⟩ := pgB_cells P5.out
  go_wp2_with fail
  refine (pread_on (C := fun P => P) Foc.self HV5.out p HP.out (a : Int) HIA.out).mono ?_
  rintro e v6 ⟨A6, n6, k6, rfl, ho6, -, hb6⟩
  rw [HR1.out]
  rw [HR2.out] at ho6
  have HV6 := hid (HV5.out.row (PV.ok _ _ _ _) hb6 ho6)
  have P6 : Hid (PgB v6 w.heap.size p) := hid (Blk.pre P5.out hb6)
  have Q6 : Hid (PgB v6 (w.heap.size + 1) q) := hid (Blk.pre Q5.out hb6)
  have O6 := hid ho6
  clear hb6 ho6 HV5 P5 Q5 c0 c1 c2 c3 c4
  go_wp2_with fail
  refine (dread_on (Foc.dv gv va) HV6.out (a : Int)).mono ?_
  rintro e v7 ⟨A7, n7, k7, rfl, ho7, -, hb7⟩
  rw [HR5.out]
  rw [HR6.out] at ho7
  have HV7 := hid (HV6.out.go (PV.ok _ _ _ _) hb7)
  have P7 : Hid (PgB v7 w.heap.size p) := hid (Blk.pre P6.out hb7)
  have Q7 : Hid (PgB v7 (w.heap.size + 1) q) := hid (Blk.pre Q6.out hb7)
  have O7 := hid (own_keep O6.out fun x hx => hb7.block x (own_lt O6.out x hx))
  have R7 := hid ((Bts.own ho7).wide (Nat.zero_le _) (Nat.le_refl _))
  clear hb7 ho7 HV6 P6 Q6 O6
  go_wp2_with fail
  refine (dover_on (Foc.dv gv va) HV7.out (b : Int) A7 n7 k7 _ R7.out (Nat.le_trans HW1.out (by decide))).mono ?_
  rintro e v8 ⟨rfl, hv8, hk8⟩
  have HV8 := hid hv8
  have P8 : Hid (PgB v8 w.heap.size p) := hid (Blk.keep P7.out (hk8.2 _ (.inl (.inl rfl))))
  have Q8 : Hid (PgB v8 (w.heap.size + 1) q) := hid (Blk.keep Q7.out (hk8.2 _ (.inl (.inr (.inl rfl)))))
  have O8 := hid (own_keep O7.out fun x hx => hk8.2 x (.inr hx))
  clear hv8 hk8 HV7 P7 Q7 O7 R7
  obtain ⟨c0, c1, c2, c3, c4⟩ := pgB_cells Q8.out
  go_wp2_with fail
  refine (pread_on (C := fun P => P) Foc.self HV8.out q HQ.out (b : Int) HIB.out).mono ?_
  rintro e v9 ⟨A9, n9, k9, rfl, ho9, -, hb9⟩
  have HV9 := hid (HV8.out.go (PV.ok _ _ _ _) hb9).below
  have P9 : Hid (PgB v9 w.heap.size p) := hid (Blk.pre P8.out hb9)
  have Q9 : Hid (PgB v9 (w.heap.size + 1) q) := hid (Blk.pre Q8.out hb9)
  have hst := own_str (own_keep O8.out fun x hx => hb9.block x (own_lt O8.out x hx))
  have hsl : (str [112, 108, 97, 105, 110]).toList = [112, 108, 97, 105, 110] := str_list _
  rw [HR9.out]
  rw [HR10.out] at ho9
  clear hb9 HV8 P8 Q8 O8 c0 c1 c2 c3 c4
  obtain ⟨c0, c1, c2, c3, c4⟩ := pgB_cells P9.out
  obtain ⟨z0, z1, z2, z3, z4⟩ := pgB_cells Q9.out
  have hiff : (p = q ∧ a = b) ∨ ¬ (p = q ∧ a = b) := Classical.em _
  by_cases h1 : p = q
  · rw [decide_eq_true h1] at heq
    by_cases h2 : a = b
    · rw [if_pos ⟨h1, h2⟩] at ho9
      rw [if_pos ⟨h1, h2⟩]
      have hst9 := own_str ho9
      have e2 : ((a : Int) == (b : Int)) = true := by simp; omega
      have e3 : decide ((a : Int) = (b : Int)) = true := by simp; omega
      have e4 : (a == b) = true := by simpa using h2
      clear h1 h2 hiff ho9
      as_aux_lemma =>
      go_wp2
      go_ret
      exact ⟨rfl, HV9.out⟩
    · have hno : ¬ (p = q ∧ a = b) := fun e => h2 e.2
      rw [if_neg hno] at ho9
      rw [if_neg hno]
      have hn9 : n9 = 0 := by have h := ho9.1; rw [Nat.mul_one] at h; exact h.symm
      have e2 : ((a : Int) == (b : Int)) = false := by simp; omega
      have e3 : decide ((a : Int) = (b : Int)) = false := by simp; omega
      have e4 : (a == b) = false := by simpa using h2
      subst hn9
      clear h1 h2 hno hiff ho9
      as_aux_lemma =>
      go_wp2
      go_ret
      exact ⟨rfl, HV9.out⟩
  · rw [decide_eq_false h1] at heq
    have hno : ¬ (p = q ∧ a = b) := fun e => h1 e.1
    rw [if_neg hno] at ho9
    rw [if_neg hno]
    have hn9 : n9 = 0 := by have h := ho9.1; rw [Nat.mul_one] at h; exact h.symm
    subst hn9
    clear h1 hno hiff ho9
    as_aux_lemma =>
    go_wp2
    go_ret
    exact ⟨rfl, HV9.out⟩
end Go.Proofs.Ytbkcjpogafkoeaa
