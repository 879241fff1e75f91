import Derived.Test.YtolaojkcofbkhaaGreatStPl
import Derived.Test.YtolaojkcofbkhaaGreatRtFirst
namespace Go.Proofs.YtolaojkcofbkhaaGreat
set_option maxRecDepth 100000
set_option maxHeartbeats 8000000
open Go.RowKit
def fc1 : List Ch := [⟨[97], ⟨0, 0, 0⟩, [49], false⟩, ⟨[98], ⟨0, 0, 0⟩, [50], false⟩]
def fc2 : List Ch := [⟨[97], ⟨0, 0, 0⟩, [51], false⟩, ⟨[98], ⟨0, 0, 0⟩, [], true⟩]
def fs1 : Sr := (cmS ⟨St.new 9, Va.new, ⟨0, 0⟩, [], false⟩ fc1).2
def fs2 : Int × Sr := cmS ⟨fs1.d.bound 2, fs1.v, fs1.c, fs1.L, fs1.dn⟩ fc2
def fd3 : St := fs2.2.d.crash [true, true, true]
def fL3 : List Bb := soL fd3 fs2.2.v fs2.2.c
theorem stfirst_facts : (soE (St.new 9) Va.new ⟨0, 0⟩ = 0 ∧ soL (St.new 9) Va.new ⟨0, 0⟩ = []) ∧ (cmS ⟨St.new 9, Va.new, ⟨0, 0⟩, [], false⟩ fc1).1 = 0 ∧ (Rgt fs1.L ∧ (∀ x ∈ fs1.L, x.b < 9) ∧ fs1.d.n = 9 ∧ fs1.d.W.length ≤ 100 ∧ fs1.v.L.length ≤ 100 ∧ fs1.c.ver ≤ 100) ∧ fs2.1 = 40 ∧
 (fs2.2.d.n = 9 ∧ fs2.2.d.W.length ≤ 100 ∧ fs2.2.v.L.length ≤ 100 ∧ fs2.2.c.ver ≤ 100 ∧ fs2.2.c.mark ≤ 100) ∧ soE fd3 fs2.2.v fs2.2.c = 0 ∧ (sgE fd3 fs2.2.v fL3 [97] = 0 ∧ sgB fd3 fs2.2.v fL3 [97] = [49]) ∧ (sgE fd3 fs2.2.v fL3 [98] = 0 ∧ sgB fd3 fs2.2.v fL3 [98] = [50]) ∧ fL3.length = 2 ∧ (frs 9 fL3).length = 5 ∧ fd3.n = 9 := by decide +kernel
instance (x : Bb) : Decidable x.wf := by unfold Bb.wf Ky.wf i64ok; infer_instance
theorem fs1_wf : ∀ x ∈ fs1.L, x.wf := by decide +kernel
theorem On.drop {w wr : World} {P Q : Ob} {X : Nat → Prop} (h : On w (P.and Q) wr X) : On w P wr X := by
 obtain ⟨F, ⟨A, B, h1, h2, h3, h4⟩, h5, h6, h7⟩ := h
 exact ⟨A, h1, fun j hj => h5 j ((h4 j).2 (.inl hj)), h6, fun x hx => ⟨fun e => (h7 x hx).1 ((h4 x).2 (.inl e)), (h7 x hx).2⟩⟩
theorem ch_two {w : World} {U : Nat → Prop} {b : Nat} (x y : Hc) (h : Blk w b 94 (x.cells ++ y.cells).toArray) (hU : U b) (hx : HcOk U w x) (hy : HcOk U w y) : ChOn U w (some ⟨b, 0, none⟩) 2 [x, y] :=
 ⟨rfl, fun j hj => by
  have hr := blkB_range h
  match j, hj with
  | 0, _ => exact ⟨b, 0, rfl, hU, h.lt, fun i u hu => by
   have := hr i u (by
    have hi : i < x.cells.length := (List.getElem?_eq_some_iff.1 hu).1
    rw [List.getElem?_append_left hi]
    exact hu)
   simpa using this, hx⟩
  | 1, _ => exact ⟨b, 0, rfl, hU, h.lt, fun i u hu => by
   have := hr (6 + i) u (by
    have e : x.cells.length = 6 := rfl
    rw [List.getElem?_append_right (by omega), e, Nat.add_sub_cancel_left]
    exact hu)
   rwa [show 0 + (6 + i) = 0 + 1 * 6 + i by omega] at this, hy⟩⟩
theorem hc_lit {w w' : World} {U : Nat → Prop} (nm l : List UInt8) (m : Nat × Nat) (hb : Below (w.alloc (.cells (bs l).toArray 5 m)).heap.size (w.alloc (.cells (bs l).toArray 5 m)) w') (hU : U w.heap.size) (hn : nm.length ≤ 100) (hl : l.length ≤ 100) : HcOk U w' ⟨nm, ⟨0, 0, 0⟩, some ⟨w.heap.size, 0, none⟩, l.length, l.length, l, false⟩ :=
 ⟨((Bts.lit1 w 5 l m).below hb (nl _)).wide (nl _) hb.size, fun _ q hq => by injection hq with hq; subst hq; exact hU, by show Ky.wf ⟨0, 0, 0⟩; unfold Ky.wf; decide, by unfold maxLen; show nm.length ≤ _; omega, by show l.length ≤ _; omega⟩
theorem hc_none {w : World} {U : Nat → Prop} (nm : List UInt8) (hn : nm.length ≤ 100) : HcOk U w ⟨nm, ⟨0, 0, 0⟩, none, 0, 0, [], true⟩ :=
 ⟨Bts.nil _ _ _ _, fun h => absurd h (Nat.lt_irrefl 0), by show Ky.wf ⟨0, 0, 0⟩; unfold Ky.wf; decide, by unfold maxLen; show nm.length ≤ _; omega, by show (0 : Nat) ≤ _; omega⟩
def ha1 (b : Nat) : Hc := ⟨[97], ⟨0, 0, 0⟩, some ⟨b, 0, none⟩, 1, 1, [49], false⟩
def ha2 (b : Nat) : Hc := ⟨[98], ⟨0, 0, 0⟩, some ⟨b, 0, none⟩, 1, 1, [50], false⟩
def ha3 (b : Nat) : Hc := ⟨[97], ⟨0, 0, 0⟩, some ⟨b, 0, none⟩, 1, 1, [51], false⟩
def ha4 : Hc := ⟨[98], ⟨0, 0, 0⟩, none, 0, 0, [], true⟩
theorem args1 (w : World) (X : Nat → Prop) (hX : ∀ x, w.heap.size ≤ x → x < w.heap.size + 3 → X x) :
 ChOn X (((w.alloc (.cells #[.int .u8 49] 5 (1, 2))).alloc (.cells #[.int .u8 50] 5 (1, 2))).alloc (.cells #[.string ⟨#[97]⟩, .int .i64 0, .int .i64 0, .int .i64 0, .slice (some ⟨w.heap.size, 0, none⟩) 1 1, .bool false, .string ⟨#[98]⟩, .int .i64 0, .int .i64 0, .int .i64 0, .slice (some ⟨w.heap.size + 1, 0, none⟩) 1 1, .bool false] 94)) (some ⟨w.heap.size + 1 + 1, 0, none⟩) 2 [ha1 w.heap.size, ha2 (w.heap.size + 1)] ∧
 Below w.heap.size w (((w.alloc (.cells #[.int .u8 49] 5 (1, 2))).alloc (.cells #[.int .u8 50] 5 (1, 2))).alloc (.cells #[.string ⟨#[97]⟩, .int .i64 0, .int .i64 0, .int .i64 0, .slice (some ⟨w.heap.size, 0, none⟩) 1 1, .bool false, .string ⟨#[98]⟩, .int .i64 0, .int .i64 0, .int .i64 0, .slice (some ⟨w.heap.size + 1, 0, none⟩) 1 1, .bool false] 94)) := by
 have hb1 : Below w.heap.size w (w.alloc (.cells #[.int .u8 49] 5 (1, 2))) := (Below.refl _ _).alloc (nl _) _
 have e1 : (w.alloc (.cells #[.int .u8 49] 5 (1, 2))).heap.size = w.heap.size + 1 := by simp
 have h1 := fun (w' : World) hb hU => hc_lit (w := w) (w' := w') (U := X) [97] [49] (1, 2) hb hU (by decide) (by decide)
 change ∀ (w' : World) (hb : Below (w.alloc (.cells #[.int .u8 49] 5 (1, 2))).heap.size (w.alloc (.cells #[.int .u8 49] 5 (1, 2))) w') (hU : X w.heap.size), HcOk X w' (ha1 w.heap.size) at h1
 generalize w.alloc (.cells #[.int .u8 49] 5 (1, 2)) = w1 at *
 have hb2 : Below w1.heap.size w1 (w1.alloc (.cells #[.int .u8 50] 5 (1, 2))) := (Below.refl _ _).alloc (nl _) _
 have e2 : (w1.alloc (.cells #[.int .u8 50] 5 (1, 2))).heap.size = w1.heap.size + 1 := by simp
 have h2 := fun (w' : World) hb hU => hc_lit (w := w1) (w' := w') (U := X) [98] [50] (1, 2) hb hU (by decide) (by decide)
 change ∀ (w' : World) (hb : Below (w1.alloc (.cells #[.int .u8 50] 5 (1, 2))).heap.size (w1.alloc (.cells #[.int .u8 50] 5 (1, 2))) w') (hU : X w1.heap.size), HcOk X w' (ha2 w1.heap.size) at h2
 generalize w1.alloc (.cells #[.int .u8 50] 5 (1, 2)) = w2 at *
 rw [← e1, ← e2]
 have hb3 : Below w2.heap.size w2 (w2.alloc (.cells ((ha1 w.heap.size).cells ++ (ha2 w1.heap.size).cells).toArray 94)) := (Below.refl _ _).alloc (nl _) _
 exact ⟨ch_two _ _ (Blk.new w2 94 _) (hX _ (by omega) (by omega)) (h1 _ (hb2.trans (hb3.mono (by omega))) (hX _ (by omega) (by omega))) (h2 _ hb3 (hX _ (by omega) (by omega))), (hb1.trans (hb2.mono (by omega))).trans (hb3.mono (by omega))⟩
theorem args2 (w : World) (X : Nat → Prop) (hX : ∀ x, w.heap.size ≤ x → x < w.heap.size + 2 → X x) :
 ChOn X ((w.alloc (.cells #[.int .u8 51] 5 (1, 2))).alloc (.cells #[.string ⟨#[97]⟩, .int .i64 0, .int .i64 0, .int .i64 0, .slice (some ⟨w.heap.size, 0, none⟩) 1 1, .bool false, .string ⟨#[98]⟩, .int .i64 0, .int .i64 0, .int .i64 0, .slice none 0 0, .bool true] 94)) (some ⟨w.heap.size + 1, 0, none⟩) 2 [ha3 w.heap.size, ha4] ∧
 Below w.heap.size w ((w.alloc (.cells #[.int .u8 51] 5 (1, 2))).alloc (.cells #[.string ⟨#[97]⟩, .int .i64 0, .int .i64 0, .int .i64 0, .slice (some ⟨w.heap.size, 0, none⟩) 1 1, .bool false, .string ⟨#[98]⟩, .int .i64 0, .int .i64 0, .int .i64 0, .slice none 0 0, .bool true] 94)) := by
 have hb1 : Below w.heap.size w (w.alloc (.cells #[.int .u8 51] 5 (1, 2))) := (Below.refl _ _).alloc (nl _) _
 have e1 : (w.alloc (.cells #[.int .u8 51] 5 (1, 2))).heap.size = w.heap.size + 1 := by simp
 have h1 := fun (w' : World) hb hU => hc_lit (w := w) (w' := w') (U := X) [97] [51] (1, 2) hb hU (by decide) (by decide)
 change ∀ (w' : World) (hb : Below (w.alloc (.cells #[.int .u8 51] 5 (1, 2))).heap.size (w.alloc (.cells #[.int .u8 51] 5 (1, 2))) w') (hU : X w.heap.size), HcOk X w' (ha3 w.heap.size) at h1
 generalize w.alloc (.cells #[.int .u8 51] 5 (1, 2)) = w1 at *
 rw [← e1]
 have hb3 : Below w1.heap.size w1 (w1.alloc (.cells ((ha3 w.heap.size).cells ++ ha4.cells).toArray 94)) := (Below.refl _ _).alloc (nl _) _
 exact ⟨ch_two _ _ (Blk.new w1 94 _) (hX _ (by omega) (by omega)) (h1 _ hb3 (hX _ (by omega) (by omega))) (hc_none [98] (by decide)), hb1.trans (hb3.mono (by omega))⟩
theorem stfirst_c (w : World) : Calls Tryz.prog 11 #[] w fun e w' => e = .returned (.bool true) ∧ Below w.heap.size w w' := by
 have HF := hid stfirst_facts
 go_enter Tryz.func11, Tryz.ntmps11
 go_wp2_with fail
 refine (dnew_on w w (Below.refl _ _) 9 (by omega) (by omega)).mono ?_
 rintro e w1 ⟨gd, rfl, hv1, -⟩
 have HV1 := hid hv1
 clear hv1
 go_wp2_with fail
 refine (vnew_on HV1.out).mono ?_
 rintro e w2 ⟨gv, rfl, hv2, -⟩
 have HV3 := hid (tc_new hv2).1
 clear hv2 HV1
 go_wp2_with fail
 generalize w2.heap.size = gc at *
 generalize w2.alloc (.cells #[.int .i64 0, .int .i64 0] 33) = w3 at *
 refine (sopen_on Foc.self (fun _ h => h) HV3.out (by decide) (by decide)).mono ?_
 rintro e w4 ⟨pp, rfl, hb4, -, ho4⟩
 obtain ⟨gs, G4, rfl, hs4, hg4⟩ := ho4 HF.out.1.1
 rw [HF.out.1.1]
 rw [HF.out.1.2] at hs4
 have HV4 : Hid (On w (TS gd (St.new 9) gv Va.new gc ⟨0, 0⟩ gs 9 [] false) w4 (fun _ => False)) := hid (HV3.out.with_ (TC.ok _ _ _ _ _ _) hs4 hb4 hg4)
 clear HV3 hs4 hg4 hb4 ho4
 have kc1 := conv1 w4 #[.int .u8 49] 1 1
 have kc2 := conv1 (w4.alloc (.cells #[.int .u8 49] 5 (1, 2))) #[.int .u8 50] 1 1
 have ez : (w4.alloc (.cells #[.int .u8 49] 5 (1, 2))).heap.size = w4.heap.size + 1 := by simp
 rw [ez] at kc2
 have HEZ := hid ez
 clear ez
 go_wp2_with fail
 clear kc1 kc2
 obtain ⟨hc5, hb5⟩ := args1 w4 (fun x => (False ∨ (w4.heap.size ≤ x ∧ x < w4.heap.size + 3)) ∨ x < w.heap.size) (fun x a b => .inl (.inr ⟨a, b⟩))
 have hv5 := HV4.out.add (TS.ok _ _ _ _ _ _ _ _ _ _) hb5 (Y := fun x => w4.heap.size ≤ x ∧ x < w4.heap.size + 3) (fun x hx => ⟨hx.1, by simp; omega⟩)
 have hcm := commit_on (C := fun P => P) (q := 2) Foc.self hv5 hc5 (by decide) ⟨fun x hx => (by cases hx), List.Pairwise.nil, by decide⟩ (fun x hx => by cases hx) (fun x hx => by cases hx) rfl (Nat.zero_le _) (Nat.zero_le _) (Nat.zero_le _)
 have HCM := hid hcm
 clear hcm hc5 hb5 hv5 HV4
 refine HCM.out.mono ?_
 rintro e w6 ⟨rfl, hv6, -⟩
 have hv6' : On w (TS gd fs1.d gv fs1.v gc fs1.c gs 9 fs1.L fs1.dn) w6 (fun _ => False) := hv6.less (fun x hx => hx.elim)
 have HV6 := hid hv6'
 have HE1 : Hid ((cmS ⟨St.new 9, Va.new, ⟨0, 0⟩, [], false⟩ (List.map Hc.ch [ha1 w4.heap.size, ha2 (w4.heap.size + 1)])).1 = 0) := hid HF.out.2.1
 rw [HE1.out]
 clear hv6 hv6' HCM HE1
 go_wp2_with fail
 refine (dlimit_on ((ts_t gs gd gv gc 9 fs1.L fs1.dn).comp (tc_d gv fs1.v gc fs1.c)) HV6.out 2 (by decide)).mono ?_
 rintro e w7 ⟨rfl, hv7, -⟩
 have HV7 : Hid (On w (TS gd (fs1.d.bound 2) gv fs1.v gc fs1.c gs 9 fs1.L fs1.dn) w7 (fun _ => False)) := hid hv7
 clear hv7 HV6
 have kc1 := conv1 w7 #[.int .u8 51] 1 1
 go_wp2_with fail
 clear kc1
 obtain ⟨hc8, hb8⟩ := args2 w7 (fun x => (False ∨ (w7.heap.size ≤ x ∧ x < w7.heap.size + 2)) ∨ x < w.heap.size) (fun x a b => .inl (.inr ⟨a, b⟩))
 have hv8 := HV7.out.add (TS.ok _ _ _ _ _ _ _ _ _ _) hb8 (Y := fun x => w7.heap.size ≤ x ∧ x < w7.heap.size + 2) (fun x hx => ⟨hx.1, by simp; omega⟩)
 have hcm := commit_on (C := fun P => P) (q := 2) Foc.self hv8 hc8 (by decide) HF.out.2.2.1.1 fs1_wf HF.out.2.2.1.2.1 HF.out.2.2.1.2.2.1 (Nat.le_trans HF.out.2.2.1.2.2.2.1 (by decide)) (Nat.le_trans HF.out.2.2.1.2.2.2.2.1 (by decide)) (Nat.le_trans HF.out.2.2.1.2.2.2.2.2 (by decide))
 have HCM := hid hcm
 clear hcm hc8 hb8 hv8 HV7
 refine HCM.out.mono ?_
 rintro e w9 ⟨rfl, hv9, -⟩
 have HV9 : Hid (On w (TS gd fs2.2.d gv fs2.2.v gc fs2.2.c gs 9 fs2.2.L fs2.2.dn) w9 (fun _ => False)) := hid (hv9.less (fun x hx => hx.elim))
 have HE2 : Hid ((cmS ⟨fs1.d.bound 2, fs1.v, fs1.c, fs1.L, fs1.dn⟩ (List.map Hc.ch [ha3 w7.heap.size, ha4])).1 = 40) := hid HF.out.2.2.2.1
 rw [HE2.out]
 clear hv9 HCM HE2
 have hb10 : Below w9.heap.size w9 (w9.alloc (.cells #[.bool true, .bool true, .bool true] 4)) := (Below.refl _ _).alloc (nl _) _
 have hv10 := HV9.out.add (TS.ok _ _ _ _ _ _ _ _ _ _) hb10 (Y := fun x => x = w9.heap.size) (fun x hx => by subst hx; simp)
 have HV10 := hid hv10
 have hls : Lst (w9.alloc (.cells #[.bool true, .bool true, .bool true] 4)) 0 (w9.alloc (.cells #[.bool true, .bool true, .bool true] 4)).heap.size (some ⟨w9.heap.size, 0, none⟩) 3 ([true, true, true].map Value.bool) := ⟨rfl, fun _ => ⟨w9.heap.size, 0, rfl, Nat.zero_le _, by simp, fun j u hu => by
  have := (Blk.new w9 4 #[.bool true, .bool true, .bool true]).cell j
  rw [Nat.zero_add, this]
  simpa using hu⟩⟩
 have HLS := hid hls
 clear hb10 hv10 hls HV9
 go_wp2_with fail
 refine (dcrash_on ((ts_t gs gd gv gc 9 fs2.2.L fs2.2.dn).comp (tc_d gv fs2.2.v gc fs2.2.c)) HV10.out _ 3 3 [true, true, true] HLS.out (fun _ x hx => by injection hx with hx; exact .inl (.inr hx.symm)) (Nat.le_trans HF.out.2.2.2.2.1.2.1 (by decide))).mono ?_
 rintro e w11 ⟨rfl, hv11, -⟩
 have HV11 : Hid (On w (TC gd fd3 gv fs2.2.v gc fs2.2.c) w11 (fun _ => False)) := hid (On.drop (hv11.less (fun x hx => hx.elim)))
 clear hv11 HV10 HLS
 go_wp2_with fail
 refine (sopen_on (C := fun P => P) (d := fd3) (v := fs2.2.v) (c := fs2.2.c) Foc.self (fun _ h => h) HV11.out (Nat.le_trans HF.out.2.2.2.2.1.2.2.2.1 (by decide)) (Nat.le_trans HF.out.2.2.2.2.1.2.2.2.2 (by decide))).mono ?_
 rintro e w12 ⟨pp, rfl, hb12, -, ho12⟩
 obtain ⟨gt, G12, rfl, hs12, hg12⟩ := ho12 HF.out.2.2.2.2.2.1
 rw [HF.out.2.2.2.2.2.1]
 rw [HF.out.2.2.2.2.2.2.2.2.2.2] at hs12
 have HV12 : Hid (On w (TS gd fd3 gv fs2.2.v gc fs2.2.c gt 9 fL3 false) w12 (fun _ => False)) := hid (HV11.out.with_ (TC.ok _ _ _ _ _ _) hs12 hb12 hg12)
 have HRG := hid (show Rgt fL3 ∧ ∀ x ∈ fL3, x.wf from soL_rgt fd3 fs2.2.v fs2.2.c)
 clear HV11 hs12 hg12 hb12 ho12
 go_wp2_with fail
 refine (sget_on (C := fun P => P) Foc.self (fun _ h => h) HV12.out [97] (by decide) (fun x hx => ⟨HRG.out.2 x hx, (HRG.out.1.1 x hx).2.2.1⟩)).mono ?_
 rintro e w13 ⟨A13, n13, k13, rfl, ho13, -, hb13⟩
 rw [HF.out.2.2.2.2.2.2.1.1]
 rw [HF.out.2.2.2.2.2.2.1.2] at ho13
 have HO13 := hid ho13
 have HV13 := hid (HV12.out.go (TS.ok _ _ _ _ _ _ _ _ _ _) hb13)
 clear ho13 hb13 HV12
 go_wp2_with fail
 refine (sget_on (C := fun P => P) Foc.self (fun _ h => h) HV13.out [98] (by decide) (fun x hx => ⟨HRG.out.2 x hx, (HRG.out.1.1 x hx).2.2.1⟩)).mono ?_
 rintro e w14 ⟨A14, n14, k14, rfl, ho14, -, hb14⟩
 rw [HF.out.2.2.2.2.2.2.2.1.1]
 rw [HF.out.2.2.2.2.2.2.2.1.2] at ho14
 have hst1 := own_str (World.ownsRow.below HO13.out hb14) (c := k13)
 have hst2 := own_str ho14 (c := k14)
 have hsl1 : (str [49]).toList = [49] := str_list _
 have hsl2 : (str [50]).toList = [50] := str_list _
 have HV14 := hid (HV13.out.go (TS.ok _ _ _ _ _ _ _ _ _ _) hb14)
 clear ho14 hb14 HV13 HO13
 go_wp2_with fail
 refine (slist_on (ts_s gd fd3 gv fs2.2.v gc fs2.2.c) HV14.out (rise_of HRG.out.1) (by have := HRG.out.1.2.2; omega) (fun x hx => by have := (HRG.out.1.1 x hx).1.2; unfold maxLen; omega)).mono ?_
 rintro e w15 ⟨A15, k15, rfl, -, hb15⟩
 have HV15 := hid (HV14.out.go (TS.ok _ _ _ _ _ _ _ _ _ _) hb15)
 rw [HF.out.2.2.2.2.2.2.2.2.1]
 clear hb15 HV14 hst1 hst2 hsl1 hsl2
 go_wp2_with fail
 refine (sfree_on (ts_s gd fd3 gv fs2.2.v gc fs2.2.c) HV15.out (by decide)).mono ?_
 rintro e w16 ⟨rfl, rfl⟩
 rw [HF.out.2.2.2.2.2.2.2.2.2.1]
 go_wp2
 go_ret
 exact ⟨rfl, HV15.out.below⟩
end Go.Proofs.YtolaojkcofbkhaaGreat
