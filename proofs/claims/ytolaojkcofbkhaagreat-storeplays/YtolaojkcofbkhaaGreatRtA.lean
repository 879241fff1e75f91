import Derived.Test.YtolaojkcofbkhaaGreatRtDef
import Derived.Test.YtolaojkcofbkhaaGreatPgOn
import Derived.Deep.DeepCutAuto
namespace Go.Proofs.YtolaojkcofbkhaaGreat
set_option maxRecDepth 100000
set_option maxHeartbeats 4000000
open Go.RowKit
def CeT (T : TypeId) (g : Nat) (c : Ce) : Ob := fun w F => Blk w g T #[.int .i64 (c.ver : Int), .int .i64 (c.mark : Int)] ∧ ∀ j, F j ↔ j = g
theorem CeT.ok (T : TypeId) (g : Nat) (c : Ce) : (CeT T g c).Ok := ⟨fun w w' F h _ hk => ⟨h.1.keep (hk g ((h.2 g).2 rfl)), h.2⟩, fun w F h j hj => by have := (h.2 j).1 hj; subst this; exact h.1.lt⟩
abbrev CeO (g : Nat) (c : Ce) : Ob := CeT 33 g c
theorem CeT.left {T : TypeId} {g : Nat} {c c' : Ce} {w w' : World} {F : Nat → Prop} (h : CeT T g c w F) (hb : Blk w' g T #[.int .i64 (c'.ver : Int), .int .i64 (c'.mark : Int)]) (hg : w.grownBy w' (some g)) : (CeT T g c').Left w w' F :=
 ⟨F, ⟨hb, h.2⟩, Kp.grown hg fun k hk => by injection hk with hk; exact .inl ((h.2 k).2 hk.symm), fun _ hj => .inl hj⟩
section
variable {C : Ob → Ob} {w wr : World} {gd gv gc : Nat} {d : St} {v : Va} {c : Ce} {X : Nat → Prop} {T : TypeId}
theorem ce_at (hC : Foc C) (h : On w (C (CeT T gc c)) wr X) : Blk wr gc T #[.int .i64 (c.ver : Int), .int .i64 (c.mark : Int)] ∧ (∀ x, X x → x ≠ gc) ∧ w.heap.size ≤ gc := by
 obtain ⟨F, h1, h2, h3, _⟩ := h.at_ hC
 exact ⟨h1.1, fun x hx e => h3 x hx ((h1.2 x).2 e), h2 gc ((h1.2 gc).2 rfl)⟩
theorem ce_set (hC : Foc C) (h : On w (C (CeT T gc c)) wr X) {wr' : World} {c' : Ce} (hb : Blk wr' gc T #[.int .i64 (c'.ver : Int), .int .i64 (c'.mark : Int)]) (hg : wr.grownBy wr' (some gc)) : On w (C (CeT T gc c')) wr' X ∧ Stay X wr wr' := by
 obtain ⟨F, h1, _, h3, hf⟩ := h.at_ hC
 obtain ⟨k1, k2, k3⟩ := hf wr' (CeT T gc c') (CeT.left h1 hb hg)
 exact ⟨k1, k2, k3⟩
theorem Foc.leave (hC : Foc C) {P P' : Ob} (h : On w (C P) wr X) {f : FuncId} {args : Array Value} {u : Value} (hcall : ∀ F, P wr F → Calls Tryz.prog f args wr fun e w' => e = .returned u ∧ P'.Left wr w' F) :
 Calls Tryz.prog f args wr fun e w' => e = .returned u ∧ On w (C P') w' X ∧ Stay X wr w' := by
 obtain ⟨F, h1, _, _, hf⟩ := h.at_ hC
 refine (hcall F h1).mono ?_
 rintro e w' ⟨rfl, hl⟩
 obtain ⟨k1, k2, k3⟩ := hf w' P' hl
 exact ⟨rfl, k1, k2, k3⟩
theorem dsync_on (hC : Foc C) (h : On w (C (DvO gd d)) wr X) (hW : d.W.length ≤ 100000) :
 Calls Tryz.prog 129 #[.pointer (some ⟨gd, 0, none⟩)] wr fun e w' => e = .returned (.int .i64 (caE d)) ∧ On w (C (DvO gd (syS d))) w' X ∧ Stay X wr w' :=
 hC.leave h fun F h1 => sync_any wr F gd d h1 hW
theorem dbeat_on (hC : Foc C) (h : On w (C (DvO gd d)) wr X) :
 Calls Tryz.prog 130 #[.pointer (some ⟨gd, 0, none⟩)] wr fun e w' => e = .returned (.int .i64 (caE d)) ∧ On w (C (DvO gd (beS d))) w' X ∧ Stay X wr w' :=
 hC.leave h fun F h1 => beat_any wr F gd d h1
theorem dlimit_on (hC : Foc C) (h : On w (C (DvO gd d)) wr X) (i : Int) (hi : i ≤ 9223372036854775807) :
 Calls Tryz.prog 20 #[.pointer (some ⟨gd, 0, none⟩), .int .i64 i] wr fun e w' => e = .returned (.tuple #[]) ∧ On w (C (DvO gd (d.bound i))) w' X ∧ Stay X wr w' :=
 hC.leave h fun F h1 => limit_c wr F gd d h1 i hi
theorem dcrash_on (hC : Foc C) (h : On w (C (DvO gd d)) wr X) (KA : Option Addr) (kn kc : Nat) (keep : List Bool) (hk : Lst wr 0 wr.heap.size KA kn (keep.map .bool)) (hX : 0 < kn → ∀ x, KA.map (·.block) = some x → X x ∨ x < w.heap.size) (hW : d.W.length ≤ 1000000) :
 Calls Tryz.prog 27 #[.pointer (some ⟨gd, 0, none⟩), .slice KA kn kc] wr fun e w' => e = .returned (.tuple #[]) ∧ On w (C (DvO gd (d.crash keep))) w' X ∧ Stay X wr w' := by
 obtain ⟨F, h1, h2, h3, hf⟩ := h.at_ hC
 refine (crash_c wr F gd d h1 KA kn kc keep hk (fun h0 u hu e => ?_) hW).mono ?_
 · rcases hX h0 u hu with hx | hx
   · exact h3 u hx e
   · have := h2 u e; omega
 rintro e w' ⟨rfl, hl⟩
 obtain ⟨k1, k2, k3⟩ := hf w' (DvO gd (d.crash keep)) hl
 exact ⟨rfl, k1, k2, k3⟩
theorem vsealed_on (hC : Foc C) (h : On w (C (VtO gv v)) wr X) :
 Calls Tryz.prog 91 #[.pointer (some ⟨gv, 0, none⟩)] wr fun e w' => e = .returned (.int .i64 (v.L.length : Int)) ∧ wr = w' := by
 obtain ⟨F, h1, _⟩ := h.at_ hC
 exact sealed_c wr F gv v h1
def TC (gd : Nat) (d : St) (gv : Nat) (v : Va) (gc : Nat) (c : Ce) : Ob := (PV gd d gv v).and (CeO gc c)
theorem TC.ok (gd : Nat) (d : St) (gv : Nat) (v : Va) (gc : Nat) (c : Ce) : (TC gd d gv v gc c).Ok := (PV.ok gd d gv v).and (CeT.ok _ gc c)
theorem tc_p (gc : Nat) (c : Ce) : Foc fun P => P.and (CeO gc c) := Foc.one Foc.self (CeT.ok _ gc c)
theorem tc_d (gv : Nat) (v : Va) (gc : Nat) (c : Ce) : Foc fun P => (P.and (VtO gv v)).and (CeO gc c) := Foc.one (Foc.dv gv v) (CeT.ok _ gc c)
theorem tc_v (gd : Nat) (d : St) (gc : Nat) (c : Ce) : Foc fun P => ((DvO gd d).and P).and (CeO gc c) := Foc.one (Foc.vt gd d) (CeT.ok _ gc c)
theorem tc_c (gd : Nat) (d : St) (gv : Nat) (v : Va) : Foc fun P => (PV gd d gv v).and P := Foc.two Foc.self (PV.ok gd d gv v)
end
theorem ce_cells {T : TypeId} {wr : World} {g : Nat} {c : Ce} (h : Blk wr g T #[.int .i64 (c.ver : Int), .int .i64 (c.mark : Int)]) : wr.cell? ⟨g, 0, none⟩ = some (.int .i64 (c.ver : Int)) ∧ wr.cell? ⟨g, 1, none⟩ = some (.int .i64 (c.mark : Int)) := ⟨(h.cell 0).trans rfl, (h.cell 1).trans rfl⟩
theorem mod2 (n : Nat) : wrap64 ((n : Int).tmod 2) = ((n % 2 : Nat) : Int) ∧ (n : Int).tmod 2 = ((n % 2 : Nat) : Int) ∧ wrap64 ((n % 2 : Nat) : Int) = ((n % 2 : Nat) : Int) := by
 have h : (n : Int).tmod 2 = ((n % 2 : Nat) : Int) := by rw [Int.tmod_eq_emod_of_nonneg (by omega)]; omega
 have h2 : wrap64 ((n % 2 : Nat) : Int) = ((n % 2 : Nat) : Int) := by unfold wrap64; omega
 exact ⟨by rw [h, h2], h, h2⟩
theorem up1 {n : Nat} (h : n ≤ 1000000000) : wrap64 ((n : Int) + 1) = ((n + 1 : Nat) : Int) := by unfold wrap64; omega
theorem cver_c {C : Ob → Ob} {w wr : World} {gc : Nat} {c : Ce} {X : Nat → Prop} (hC : Foc C) (h : On w (C (CeO gc c)) wr X) :
 Calls Tryz.prog 33 #[.pointer (some ⟨gc, 0, none⟩)] wr fun e w' => e = .returned (.int .i64 (c.ver : Int)) ∧ wr = w' := by
 obtain ⟨hb, -, -⟩ := ce_at hC h
 obtain ⟨c0, c1⟩ := ce_cells hb
 clear h hb
 go_enter Tryz.func33, Tryz.ntmps33
 go_wp2
 go_ret
 exact ⟨rfl, rfl⟩
theorem cblock_c (c : Ce) (w : World) : Calls Tryz.prog 121 #[.agg #[.int .i64 (c.ver : Int), .int .i64 (c.mark : Int)]] w fun e w' => e = .returned (.int .i64 (rtI c)) ∧ Below w.heap.size w w' := by
 obtain ⟨m1, m2, m3⟩ := mod2 c.ver
 have HB : Hid (Below w.heap.size w (w.alloc (.cells #[.int .i64 (c.ver : Int), .int .i64 (c.mark : Int)] 33))) := hid ((Below.refl _ _).alloc (nl _) _)
 obtain ⟨c0, c1⟩ := ce_cells (Blk.new w 33 #[.int .i64 (c.ver : Int), .int .i64 (c.mark : Int)])
 have HE : Hid (rtI c = ((c.ver % 2 : Nat) : Int)) := hid rfl
 generalize c.ver % 2 = r at *
 go_enter Tryz.func121, Tryz.ntmps121
 go_wp2
 go_ret
 exact ⟨by rw [HE.out]; rfl, HB.out⟩
theorem cpage_c (c : Ce) (w : World) : Calls Tryz.prog 122 #[.agg #[.int .i64 (c.ver : Int), .int .i64 (c.mark : Int)]] w fun e w' => e = .returned (.agg #[.int .i64 (rtP c).k.t, .int .i64 (rtP c).k.c, .int .i64 (rtP c).k.e, .int .i64 (rtP c).id, .int .i64 (rtP c).ver]) ∧ Below w.heap.size w w' := by
 have hb1 : Below w.heap.size w (w.alloc (.cells #[.int .i64 (c.ver : Int), .int .i64 (c.mark : Int)] 33)) := (Below.refl _ _).alloc (nl _) _
 have hs1 : (w.alloc (.cells #[.int .i64 (c.ver : Int), .int .i64 (c.mark : Int)] 33)).heap.size = w.heap.size + 1 := by simp
 have hk := Blk.new w 33 #[.int .i64 (c.ver : Int), .int .i64 (c.mark : Int)]
 have HB1 := hid hb1
 have HS1 := hid hs1
 have HK := hid hk
 clear hb1 hs1 hk
 go_enter Tryz.func122, Tryz.ntmps122
 have hk2 : PgB ((w.alloc (.cells #[.int .i64 (c.ver : Int), .int .i64 (c.mark : Int)] 33)).alloc (.cells #[.int .i64 0, .int .i64 0, .int .i64 0, .int .i64 (c.mark : Int), .int .i64 (c.ver : Int)] 88)) (w.heap.size + 1) (rtP c) := by
  have := Blk.new (w.alloc (.cells #[.int .i64 (c.ver : Int), .int .i64 (c.mark : Int)] 33)) 88 #[.int .i64 0, .int .i64 0, .int .i64 0, .int .i64 (c.mark : Int), .int .i64 (c.ver : Int)]
  rw [HS1.out] at this
  exact this
 obtain ⟨p0, p1, p2, p3, p4⟩ := pgB_cells hk2
 have HB2 := hid (HB1.out.alloc (by rw [HS1.out]; omega) (.cells #[.int .i64 0, .int .i64 0, .int .i64 0, .int .i64 (c.mark : Int), .int .i64 (c.ver : Int)] 88))
 clear hk2
 go_wp2_with fail
 refine bodyPost_ret (v := .agg #[.int .i64 (rtP c).k.t, .int .i64 (rtP c).k.c, .int .i64 (rtP c).k.e, .int .i64 (rtP c).id, .int .i64 (rtP c).ver]) (by simp [results, Tryz.results122, go_sem, p0, p1, p2, p3, p4]) rfl ⟨rfl, HB2.out⟩
theorem up1k {n : Nat} (h : n ≤ 1000000000) : IntKind.i64.wrap ((n : Int) + 1) = ((n + 1 : Nat) : Int) := by rw [IntWalk.i64_in _ (by omega)]; omega
theorem pt_err {d : St} {v : Va} {c : Ce} {n : Nat} (h : pwE d v (rtI (nxt v c)) (rtP (nxt v c)) n ≠ 0) : ptE d v c n = pwE d v (rtI (nxt v c)) (rtP (nxt v c)) n ∧ ptD d v c n = pwD d v (rtI (nxt v c)) (rtP (nxt v c)) n ∧ ptC d v c n = c := by
 have h1 : ptE d v c n = pwE d v (rtI (nxt v c)) (rtP (nxt v c)) n := by unfold ptE; rw [if_pos h]
 exact ⟨h1, by unfold ptD; rw [if_pos h], by unfold ptC; rw [h1, if_neg h]⟩
theorem pt_on {d : St} {v : Va} {c : Ce} {n : Nat} (h : pwE d v (rtI (nxt v c)) (rtP (nxt v c)) n = 0) : ptE d v c n = caE (syS (pwD d v (rtI (nxt v c)) (rtP (nxt v c)) n)) ∧ ptD d v c n = beS (syS (pwD d v (rtI (nxt v c)) (rtP (nxt v c)) n)) ∧ ptC d v c n = (if caE (syS (pwD d v (rtI (nxt v c)) (rtP (nxt v c)) n)) = 0 then nxt v c else c) := by
 have h0 : ¬ pwE d v (rtI (nxt v c)) (rtP (nxt v c)) n ≠ 0 := fun e => e h
 have h1 : ptE d v c n = caE (syS (pwD d v (rtI (nxt v c)) (rtP (nxt v c)) n)) := by unfold ptE; rw [if_neg h0]
 exact ⟨h1, by unfold ptD; rw [if_neg h0], by unfold ptC; rw [h1]⟩
theorem put_on {C : Ob → Ob} {w wr : World} {gd gv gc : Nat} {d : St} {v : Va} {c : Ce} {X : Nat → Prop} (hC : Foc C) (hOk : ∀ P : Ob, P.Ok → (C P).Ok) (h : On w (C (TC gd d gv v gc c)) wr X) (A : Option Addr) (n k : Nat) (l : List UInt8) (hr : Bts wr 0 wr.heap.size A n l) (hW : d.W.length ≤ 50000) (hL : v.L.length ≤ 500000) (hv : c.ver ≤ 500000) :
 Calls Tryz.prog 96 #[.pointer (some ⟨gd, 0, none⟩), .pointer (some ⟨gv, 0, none⟩), .pointer (some ⟨gc, 0, none⟩), .slice A n k] wr fun e w' => e = .returned (.int .i64 (ptE d v c l.length)) ∧ On w (C (TC gd (ptD d v c l.length) gv (ptV d v c l) gc (ptC d v c l.length))) w' X ∧ Stay X wr w' := by
 have hw1 := up1k (n := c.ver) (by omega)
 have hw2 := up1k (n := v.L.length) (by omega)
 have HWF : Hid ((rtP (nxt v c)).wf) := hid (rtP_wf (by show c.ver + 1 ≤ _; omega) (by show v.L.length + 1 ≤ _; omega))
 have HWL : Hid (d.W.length ≤ 100000) := hid (by omega)
 have HW2 : Hid ((pwD d v (rtI (nxt v c)) (rtP (nxt v c)) l.length).W.length ≤ 100000) := hid (by have := pwD_W d v (rtI (nxt v c)) (rtP (nxt v c)) l.length; omega)
 have HLL : Hid (v.L.length ≤ 1000000) := hid (by omega)
 have HOK := hid hOk
 have HR := hid hr
 obtain ⟨hb, -, -⟩ := ce_at (hC.comp (tc_c gd d gv v)) h
 obtain ⟨x0, x1⟩ := ce_cells hb
 have HB := hid hb
 have HH := hid h
 clear hr hW hL hb hv h hOk
 go_enter Tryz.func96, Tryz.ntmps96
 go_wp2_with fail
 have hbel : Below wr.heap.size wr wr.drew := (Below.refl _ _).drew
 have HBEL := hid hbel
 have HD := hid (HH.out.go (HOK.out _ (TC.ok _ _ _ _ _ _)) hbel)
 have HBD : Hid (Blk wr.drew gc 33 #[.int .i64 (c.ver : Int), .int .i64 (c.mark : Int)]) := hid HB.out
 have hsz : wr.drew.heap.size = wr.heap.size := rfl
 have HSZ := hid hsz
 clear hbel HH HB x0 x1 hsz
 go_cut [9] (fun s9 wx => s9 = .pointer (some ⟨wr.drew.heap.size, 0, none⟩) ∧ wx = wr.drew.alloc (.cells #[.int .i64 ((c.ver + 1 : Nat) : Int), .int .i64 ((v.L.length + 1 : Nat) : Int)] 33))
 case first =>
  refine wp_region_held_drew (S := fun wx => wx.cell? ⟨gc, 0, none⟩ = some (.int .i64 (c.ver : Int)) ∧ wx.cell? ⟨gc, 1, none⟩ = some (.int .i64 (c.mark : Int))) (by kernel_rfl) (ce_cells HBD.out) (fun HS => ?_)
  generalize wr.drew = w3 at *
  refine qT 0 ?va0 ?ya0 HS ?ra0
  case ya0 => refine qI fun wS hSw => ?_; go_simp; try with_reducible rfl
  try simp only [Act.put, zA]
  refine qT 1 ?va1 ?ya1 HS ?ra1
  case ya1 => refine qI fun wS hSw => ?_; go_simp; try with_reducible rfl
  try simp only [Act.put, zA]
  refine qT 2 ?va2 ?ya2 HS ?ra2
  case ya2 => refine qI fun wS hSw => ?_; go_simp; try with_reducible rfl
  try simp only [Act.put, zA]
  refine qT 3 ?va3 ?ya3 HS ?ra3
  case ya3 => refine qI fun wS hSw => ?_; go_simp; try with_reducible rfl
  try simp only [Act.put, zA]
  refine qT 4 ?va4 ?ya4 HS ?ra4
  case ya4 => refine qI fun wS hSw => ?_; go_simp; try with_reducible rfl
  try simp only [Act.put, zA]
  refine qT 5 ?va5 ?ya5 HS ?ra5
  case ya5 => refine qI fun wS hSw => ?_; go_simp; try with_reducible rfl
  try simp only [Act.put, zA]
  refine wpAnyH_ready (rs := [6, 9]) (by kernel_rfl) (by simp) ?_
  refine (AllReadyH.cons (o := ?oa6) ?hoa6 (fun K hK => ?stepa6) (AllReadyH.cons (o := ?oa9) ?hoa9 (fun K hK => ?stepa9) AllReadyH.nil))
  case hoa6 => simp only [zD, zE, zF]; exact rfl
  case hoa9 => simp only [zD, zE, zF]; exact rfl
  case stepa6 =>
   go_simp
   refine (vsealed_on (hC.comp (tc_v gd d gc c)) HD.out).mono ?_
   rintro e wz ⟨rfl, rfl⟩
   refine hK.out _ _ (ce_cells HBD.out) (fun HS => ?_)
   clear hK K
   try simp only [Act.put, zA]
   refine qT 7 ?vb7 ?yb7 HS ?rb7
   case yb7 => refine qI fun wS hSw => ?_; go_simp; try with_reducible rfl
   try simp only [Act.put, zA]
   refine qT 8 ?vb8 ?yb8 HS ?rb8
   case yb8 => refine qI fun wS hSw => ?_; go_simp; try with_reducible rfl
   try simp only [Act.put, zA]
   refine qR 9 fun K hK => ?_
   go_simp
   refine hK.out _ _ (ce_cells (HBD.out.keep (((Below.refl w3.heap.size w3).alloc (nl _) _).block gc HBD.out.lt))) (fun HS => ?_)
   clear hK K
   try simp only [Act.put, zA]
   refine qR 10 fun K hK => ?_
   go_simp
   refine hK.out _ _ (ce_cells (HBD.out.keep (((Below.refl w3.heap.size w3).alloc (nl _) _).block gc HBD.out.lt))) (fun HS => ?_)
   clear hK K
   try simp only [Act.put]
   refine qD ?_
   clear HS
   go_wp2_with fail
   go_meet
   case rel => exact ⟨rfl, rfl⟩
  case stepa9 =>
   go_simp
   refine hK.out _ _ (ce_cells (HBD.out.keep (((Below.refl w3.heap.size w3).alloc (nl _) _).block gc HBD.out.lt))) (fun HS => ?_)
   clear hK K
   try simp only [Act.put, zA]
   refine qR 6 fun K hK => ?_
   go_simp
   refine (vsealed_on (hC.comp (tc_v gd d gc c)) (HD.out.go (HOK.out _ (TC.ok _ _ _ _ _ _)) ((Below.refl _ _).alloc (nl _) _))).mono ?_
   rintro e wz ⟨rfl, rfl⟩
   refine hK.out _ _ (ce_cells (HBD.out.keep (((Below.refl w3.heap.size w3).alloc (nl _) _).block gc HBD.out.lt))) (fun HS => ?_)
   clear hK K
   try simp only [Act.put, zA]
   refine qT 7 ?vc7 ?yc7 HS ?rc7
   case yc7 => refine qI fun wS hSw => ?_; go_simp; try with_reducible rfl
   try simp only [Act.put, zA]
   refine qT 8 ?vc8 ?yc8 HS ?rc8
   case yc8 => refine qI fun wS hSw => ?_; go_simp; try with_reducible rfl
   try simp only [Act.put, zA]
   refine qR 10 fun K hK => ?_
   go_simp
   refine hK.out _ _ (ce_cells (HBD.out.keep (((Below.refl w3.heap.size w3).alloc (nl _) _).block gc HBD.out.lt))) (fun HS => ?_)
   clear hK K
   try simp only [Act.put]
   refine qD ?_
   clear HS
   go_wp2_with fail
   go_meet
   case rel => exact ⟨rfl, rfl⟩
 case rest =>
 obtain ⟨rfl, rfl⟩ := hcut
 generalize wr.drew = w3 at *
 have hb4 : Below w3.heap.size w3 (w3.alloc (.cells #[.int .i64 ((c.ver + 1 : Nat) : Int), .int .i64 ((v.L.length + 1 : Nat) : Int)] 33)) := (Below.refl _ _).alloc (nl _) _
 have HB4 : Hid (Below wr.heap.size wr (w3.alloc (.cells #[.int .i64 ((c.ver + 1 : Nat) : Int), .int .i64 ((v.L.length + 1 : Nat) : Int)] 33))) := hid (HBEL.out.trans (hb4.mono HBEL.out.size))
 have H4 : Hid (On w (C (TC gd d gv v gc c)) (w3.alloc (.cells #[.int .i64 ((c.ver + 1 : Nat) : Int), .int .i64 ((v.L.length + 1 : Nat) : Int)] 33)) (fun x => X x ∨ x = w3.heap.size)) := hid (HD.out.add (HOK.out _ (TC.ok _ _ _ _ _ _)) hb4 (Y := fun x => x = w3.heap.size) (fun x hx => by subst hx; simp))
 have HK4 : Hid (Blk (w3.alloc (.cells #[.int .i64 ((c.ver + 1 : Nat) : Int), .int .i64 ((v.L.length + 1 : Nat) : Int)] 33)) w3.heap.size 33 #[.int .i64 ((c.ver + 1 : Nat) : Int), .int .i64 ((v.L.length + 1 : Nat) : Int)]) := hid (Blk.new w3 33 #[.int .i64 ((c.ver + 1 : Nat) : Int), .int .i64 ((v.L.length + 1 : Nat) : Int)])
 have HX4 : Hid (∀ x, X x → x < wr.heap.size) := hid (fun x hx => by have := HD.out.lt hx; rw [HSZ.out] at this; exact this)
 clear hb4 HD HBEL HBD hw1 hw2 HSZ
 generalize w3.heap.size = nb at *
 generalize w3.alloc (.cells #[.int .i64 ((c.ver + 1 : Nat) : Int), .int .i64 ((v.L.length + 1 : Nat) : Int)] 33) = w4 at *
 go_wp2_with fail
 have HB5 : Hid (Below wr.heap.size wr w4.drew) := hid HB4.out.drew
 have H5 := hid (H4.out.go (HOK.out _ (TC.ok _ _ _ _ _ _)) (wr' := w4.drew) ((Below.refl _ _).drew))
 have HK5 : Hid (Blk w4.drew nb 33 #[.int .i64 ((c.ver + 1 : Nat) : Int), .int .i64 ((v.L.length + 1 : Nat) : Int)]) := hid HK4.out
 clear HB4 H4 HK4
 refine wp_region_held_drew (S := fun wx => wx.cell? ⟨nb, 0, none⟩ = some (.int .i64 ((c.ver + 1 : Nat) : Int)) ∧ wx.cell? ⟨nb, 1, none⟩ = some (.int .i64 ((v.L.length + 1 : Nat) : Int))) (by kernel_rfl) (ce_cells (c := nxt v c) HK5.out) (fun HS => ?_)
 generalize w4.drew = w5 at *
 refine qT 0 ?vd0 ?yd0 HS ?rd0
 case yd0 => refine qI fun wS hSw => ?_; go_simp; try with_reducible rfl
 try simp only [Act.put, zA]
 refine qT 1 ?vd1 ?yd1 HS ?rd1
 case yd1 => refine qI fun wS hSw => ?_; go_simp; try with_reducible rfl
 try simp only [Act.put, zA]
 refine qT 2 ?vd2 ?yd2 HS ?rd2
 case yd2 => refine qI fun wS hSw => ?_; go_simp; try with_reducible rfl
 try simp only [Act.put, zA]
 refine qT 4 ?vd4 ?yd4 HS ?rd4
 case yd4 => refine qI fun wS hSw => ?_; go_simp; try with_reducible rfl
 try simp only [Act.put, zA]
 refine qT 6 ?vd6 ?yd6 HS ?rd6
 case yd6 => refine qI fun wS hSw => ?_; go_simp; try with_reducible rfl
 try simp only [Act.put, zA]
 refine qR 3 fun K hK => ?_
 go_simp
 refine (cblock_c (nxt v c) w5).mono ?_
 rintro e wa ⟨rfl, hba⟩
 have HBa := hid (HB5.out.trans (hba.mono HB5.out.size))
 have Ha := hid (H5.out.go (HOK.out _ (TC.ok _ _ _ _ _ _)) hba)
 have HKa := hid (HK5.out.keep (hba.block nb HK5.out.lt))
 clear hba HB5 H5 HK5
 refine hK.out _ _ (ce_cells (c := nxt v c) HKa.out) (fun HS => ?_)
 clear hK K
 try simp only [Act.put, zA]
 refine qR 5 fun K hK => ?_
 go_simp
 refine (cpage_c (nxt v c) wa).mono ?_
 rintro e wb ⟨rfl, hba⟩
 have HBb := hid (HBa.out.trans (hba.mono HBa.out.size))
 have Hb := hid (Ha.out.go (HOK.out _ (TC.ok _ _ _ _ _ _)) hba)
 have HKb := hid (HKa.out.keep (hba.block nb HKa.out.lt))
 clear hba HBa Ha HKa
 refine hK.out _ _ (ce_cells (c := nxt v c) HKb.out) (fun HS => ?_)
 clear hK K
 try simp only [Act.put, zA]
 refine qR 7 fun K hK => ?_
 go_simp
 refine (pwrite_on (hC.comp (tc_p gc c)) Hb.out (rtP (nxt v c)) HWF.out (rtI (nxt v c)) (rtI_ok _) A n k l ((HR.out.below HBb.out (nl _)).wide (nl _) HBb.out.size) HWL.out HLL.out).mono ?_
 rintro e w6 ⟨rfl, hv6, hk6⟩
 refine hK.out _ _ (ce_cells (c := nxt v c) (HKb.out.keep (hk6.2 nb (.inr rfl)))) (fun HS => ?_)
 clear hK K
 try simp only [Act.put, zA]
 refine qT 8 ?vd8 ?yd8 HS ?rd8
 case yd8 => refine qI fun wS hSw => ?_; go_simp; try with_reducible rfl
 try simp only [Act.put, zA]
 refine qD ?_
 clear HS
 have HC6 := hid hv6
 have HK6 := hid (HKb.out.keep (hk6.2 nb (.inr rfl)))
 have HY6 : Hid (Stay X wr w6) := hid ((Stay.below HBb.out HX4.out).trans (hk6.less fun x hx => .inl hx))
 clear hv6 hk6 HKb HBb HX4 Hb
 have hq := @pt_err d v c l.length
 have hp := @pt_on d v c l.length
 have HQ := hid hq
 have HP := hid hp
 have HV : Hid (ptV d v c l = pwV d v (rtI (nxt v c)) (rtP (nxt v c)) l) := hid rfl
 clear hq hp
 generalize pwE d v (rtI (nxt v c)) (rtP (nxt v c)) l.length = E1 at *
 generalize pwD d v (rtI (nxt v c)) (rtP (nxt v c)) l.length = D1 at *
 generalize pwV d v (rtI (nxt v c)) (rtP (nxt v c)) l = V1 at *
 obtain ⟨y0, y1⟩ := ce_cells (c := nxt v c) HK6.out
 by_cases hz : E1 = 0
 · obtain ⟨q1, q2, q3⟩ := HP.out hz
   have hs := dsync_on (hC.comp (tc_d gv V1 gc c)) HC6.out HW2.out
   subst hz
   have Q := hid (And.intro q1 (And.intro q2 q3))
   clear q1 q2 q3 HQ HP
   go_wp2_with fail
   refine hs.mono ?_
   rintro e w7 ⟨rfl, hv7, hk7⟩
   have H7 := hid hv7
   have HK7 := hid (HK6.out.keep (hk7.2 nb (.inr rfl)))
   have HY7 := hid (HY6.out.trans (hk7.less fun x hx => .inl hx))
   clear hs hv7 hk7 HC6 HK6 HY6 y0 y1
   by_cases h2 : caE D1 = 0
   · have hbt := dbeat_on (hC.comp (tc_d gv V1 gc c)) H7.out
     rw [h2]
     clear h2
     go_wp2_with fail
     refine hbt.mono ?_
     rintro e w8 ⟨rfl, hv8, hk8⟩
     have H8 := hid hv8
     have HK8 := hid (HK7.out.keep (hk8.2 nb (.inr rfl)))
     have HY8 := hid (HY7.out.trans (hk8.less fun x hx => .inl hx))
     clear hbt hv8 hk8 H7 HK7 HY7
     by_cases h3 : caE (syS D1) = 0
     · obtain ⟨q1, q2, q3⟩ := Q.out
       rw [if_pos h3] at q3
       rw [h3] at q1
       have Q2 := hid (And.intro q1 (And.intro q2 q3))
       rw [h3]
       clear h3 q1 q2 q3 Q
       obtain ⟨y0, y1⟩ := ce_cells (c := nxt v c) HK8.out
       obtain ⟨hb8, hx8, -⟩ := ce_at (hC.comp (tc_c gd _ gv V1)) H8.out
       obtain ⟨x0, x1⟩ := ce_cells hb8
       have f0 := hb8.frozen 0
       have f1 := hb8.frozen 1
       have hb9 : Blk ((w8.setCell ⟨gc, 0, none⟩ (.int .i64 ((nxt v c).ver : Int))).setCell ⟨gc, 1, none⟩ (.int .i64 ((nxt v c).mark : Int))) gc 33 #[.int .i64 ((nxt v c).ver : Int), .int .i64 ((nxt v c).mark : Int)] := (hb8.store 0 (.int .i64 ((nxt v c).ver : Int))).store 1 (.int .i64 ((nxt v c).mark : Int))
       have hg9 : w8.grownBy ((w8.setCell ⟨gc, 0, none⟩ (.int .i64 ((nxt v c).ver : Int))).setCell ⟨gc, 1, none⟩ (.int .i64 ((nxt v c).mark : Int))) (some gc) := grown_setCells gc [.int .i64 ((nxt v c).ver : Int), .int .i64 ((nxt v c).mark : Int)] 0 w8
       obtain ⟨k1, k2⟩ := ce_set (hC.comp (tc_c gd _ gv V1)) (H8.out.less (Y := X) fun x hx => .inl hx) hb9 hg9
       have HF := hid k1
       have HY9 := hid (HY8.out.trans k2)
       clear hb8 hx8 hb9 hg9 k1 k2 HK8 H8
       go_wp2
       go_ret
       exact ⟨by rw [Q2.out.1]; rfl, by rw [Q2.out.2.1, Q2.out.2.2, HV.out]; exact HF.out, HY9.out⟩
     · obtain ⟨q1, q2, q3⟩ := Q.out
       rw [if_neg h3] at q3
       have z1 : (caE (syS D1) == 0) = false := by simpa using h3
       have z2 : (caE (syS D1) != 0) = true := by simpa using h3
       have z3 : decide (caE (syS D1) = 0) = false := by simpa using h3
       have HF : Hid (On w (C (TC gd (beS (syS D1)) gv V1 gc c)) w8 X) := hid (H8.out.less fun x hx => .inl hx)
       have Q2 := hid (And.intro q1 (And.intro q2 q3))
       clear Q q1 q2 q3 h3
       generalize caE (syS D1) = E3 at *
       go_wp2
       go_ret
       exact ⟨by rw [Q2.out.1]; rfl, by rw [Q2.out.2.1, Q2.out.2.2, HV.out]; exact HF.out, HY8.out⟩
   · obtain ⟨q1, q2, q3⟩ := Q.out
     have e1 := syS_off h2
     have e2 := beS_off h2
     have HF := hid (H7.out.less (Y := X) fun x hx => .inl hx)
     rw [e1] at HF q1 q2 q3
     rw [e2] at q2
     rw [if_neg h2] at q3
     have z1 : (caE D1 == 0) = false := by simpa using h2
     have z2 : (caE D1 != 0) = true := by simpa using h2
     have z3 : decide (caE D1 = 0) = false := by simpa using h2
     have Q2 := hid (And.intro q1 (And.intro q2 q3))
     clear Q e1 e2 q1 q2 q3 h2
     generalize caE D1 = E3 at *
     go_wp2
     go_ret
     exact ⟨by rw [Q2.out.1]; rfl, by rw [Q2.out.2.1, Q2.out.2.2, HV.out]; exact HF.out, HY7.out⟩
 · obtain ⟨q1, q2, q3⟩ := HQ.out hz
   have z1 : (E1 == 0) = false := by simpa using hz
   have z2 : (E1 != 0) = true := by simpa using hz
   have z3 : decide (E1 = 0) = false := by simpa using hz
   have HF : Hid (On w (C (TC gd D1 gv V1 gc c)) w6 X) := hid (HC6.out.less fun x hx => .inl hx)
   have Q2 := hid (And.intro q1 (And.intro q2 q3))
   clear q1 q2 q3 hz HQ HP
   go_wp2
   go_ret
   exact ⟨by rw [Q2.out.1]; rfl, by rw [Q2.out.2.1, Q2.out.2.2, HV.out]; exact HF.out, HY6.out⟩
theorem get_on {C : Ob → Ob} {w wr : World} {gd gv gc : Nat} {d : St} {v : Va} {c : Ce} {X : Nat → Prop} (hC : Foc C) (hOk : ∀ P : Ob, P.Ok → (C P).Ok) (h : On w (C (TC gd d gv v gc c)) wr X) (hv : c.ver ≤ 500000) (hm : c.mark ≤ 600000) :
 Calls Tryz.prog 85 #[.pointer (some ⟨gd, 0, none⟩), .pointer (some ⟨gv, 0, none⟩), .pointer (some ⟨gc, 0, none⟩)] wr fun e w' => ∃ A n k, e = .returned (.tuple #[.slice A n k, .int .i64 (gtE d v c)]) ∧ w'.ownsRow wr.heap.size 5 1 (.slice A n k) n (bs (gtB d v c)) ∧ n ≤ 65536 ∧ Below wr.heap.size wr w' := by
 have HWF : Hid ((rtP c).wf) := hid (rtP_wf (by omega) (by omega))
 have HOK := hid hOk
 obtain ⟨hb, -, -⟩ := ce_at (hC.comp (tc_c gd d gv v)) h
 obtain ⟨x0, x1⟩ := ce_cells hb
 have HB := hid hb
 have HH := hid h
 clear hb h hOk hv hm
 by_cases hz : c.ver = 0
 · have e1 : ((c.ver : Int) == 0) = true := by simp [hz]
   have e2 : decide ((c.ver : Int) = 0) = true := by simp [hz]
   have e3 : decide (c.ver = 0) = true := by simp [hz]
   have e4 : (c.ver == 0) = true := by simp [hz]
   have HE : Hid (gtE d v c = 90) := hid (if_pos hz)
   have HO : Hid (gtB d v c = []) := hid (if_pos hz)
   generalize c.ver = V at *
   clear hz
   go_enter Tryz.func85, Tryz.ntmps85
   go_wp2
   go_ret2
   exact ⟨none, 0, 0, by rw [HE.out]; rfl, by rw [HO.out]; exact own_nilrow _ _ _ _, by omega, Below.refl _ _⟩
 · have e1 : ((c.ver : Int) == 0) = false := by simp; omega
   have e2 : decide ((c.ver : Int) = 0) = false := by simp; omega
   have e3 : decide (c.ver = 0) = false := by simpa using hz
   have e4 : (c.ver == 0) = false := by simpa using hz
   have HE : Hid (gtE d v c = prE d v (rtI c) (rtP c)) := hid (if_neg hz)
   have HO : Hid (gtB d v c = prB d v (rtI c) (rtP c)) := hid (if_neg hz)
   clear hz
   go_enter Tryz.func85, Tryz.ntmps85
   go_wp2_with fail
   clear e1 e2 e3 e4 x0 x1
   have HB5 : Hid (Below wr.heap.size wr wr.drew) := hid ((Below.refl _ _).drew)
   have H5 := hid (HH.out.go (HOK.out _ (TC.ok _ _ _ _ _ _)) (wr' := wr.drew) ((Below.refl _ _).drew))
   have HK5 : Hid (Blk wr.drew gc 33 #[.int .i64 (c.ver : Int), .int .i64 (c.mark : Int)]) := hid HB.out
   clear HH HB
   refine wp_region_held_drew (S := fun wx => wx.cell? ⟨gc, 0, none⟩ = some (.int .i64 (c.ver : Int)) ∧ wx.cell? ⟨gc, 1, none⟩ = some (.int .i64 (c.mark : Int))) (by kernel_rfl) (ce_cells HK5.out) (fun HS => ?_)
   generalize wr.drew = w5 at *
   refine qT 0 ?va0 ?ya0 HS ?ra0
   case ya0 => refine qI fun wS hSw => ?_; go_simp; try with_reducible rfl
   try simp only [Act.put, zA]
   refine qT 1 ?va1 ?ya1 HS ?ra1
   case ya1 => refine qI fun wS hSw => ?_; go_simp; try with_reducible rfl
   try simp only [Act.put, zA]
   refine qT 2 ?va2 ?ya2 HS ?ra2
   case ya2 => refine qI fun wS hSw => ?_; go_simp; try with_reducible rfl
   try simp only [Act.put, zA]
   refine qT 3 ?va3 ?ya3 HS ?ra3
   case ya3 => refine qI fun wS hSw => ?_; go_simp; try with_reducible rfl
   try simp only [Act.put, zA]
   refine qT 4 ?va4 ?ya4 HS ?ra4
   case ya4 => refine qI fun wS hSw => ?_; go_simp; try with_reducible rfl
   try simp only [Act.put, zA]
   refine qT 6 ?va6 ?ya6 HS ?ra6
   case ya6 => refine qI fun wS hSw => ?_; go_simp; try with_reducible rfl
   try simp only [Act.put, zA]
   refine qT 7 ?va7 ?ya7 HS ?ra7
   case ya7 => refine qI fun wS hSw => ?_; go_simp; try with_reducible rfl
   try simp only [Act.put, zA]
   refine qT 8 ?va8 ?ya8 HS ?ra8
   case ya8 => refine qI fun wS hSw => ?_; go_simp; try with_reducible rfl
   try simp only [Act.put, zA]
   refine qR 5 fun K hK => ?_
   go_simp
   refine (cblock_c c w5).mono ?_
   rintro e wa ⟨rfl, hba⟩
   have HBa := hid (HB5.out.trans (hba.mono HB5.out.size))
   have Ha := hid (H5.out.go (HOK.out _ (TC.ok _ _ _ _ _ _)) hba)
   have HKa := hid (HK5.out.keep (hba.block gc HK5.out.lt))
   clear hba HB5 H5 HK5
   refine hK.out _ _ (ce_cells HKa.out) (fun HS => ?_)
   clear hK K
   try simp only [Act.put, zA]
   refine qR 9 fun K hK => ?_
   go_simp
   refine (cpage_c c wa).mono ?_
   rintro e wb ⟨rfl, hba⟩
   have HBb := hid (HBa.out.trans (hba.mono HBa.out.size))
   have Hb := hid (Ha.out.go (HOK.out _ (TC.ok _ _ _ _ _ _)) hba)
   have HKb := hid (HKa.out.keep (hba.block gc HKa.out.lt))
   clear hba HBa Ha HKa
   refine hK.out _ _ (ce_cells HKb.out) (fun HS => ?_)
   clear hK K
   try simp only [Act.put, zA]
   refine qR 10 fun K hK => ?_
   go_simp
   refine (pread_on (hC.comp (tc_p gc c)) Hb.out (rtP c) HWF.out (rtI c) (rtI_ok _)).mono ?_
   rintro e w6 ⟨A5, n5, c5, rfl, ho5, hn5, hb5⟩
   have HO5 := hid ho5
   have HN5 := hid hn5
   have HBz := hid (HBb.out.trans (hb5.mono HBb.out.size))
   have HKz := hid (HKb.out.keep (hb5.block gc HKb.out.lt))
   clear ho5 hn5 hb5
   refine hK.out _ _ (ce_cells HKz.out) (fun HS => ?_)
   clear hK K
   try simp only [Act.put, zA]
   refine qT 11 ?va11 ?ya11 HS ?ra11
   case ya11 => refine qI fun wS hSw => ?_; go_simp; try with_reducible rfl
   try simp only [Act.put, zA]
   refine qT 12 ?va12 ?ya12 HS ?ra12
   case ya12 => refine qI fun wS hSw => ?_; go_simp; try with_reducible rfl
   try simp only [Act.put, zA]
   refine qT 13 ?va13 ?ya13 HS ?ra13
   case ya13 => refine qI fun wS hSw => ?_; go_simp; try with_reducible rfl
   try simp only [Act.put, zA]
   refine qT 14 ?va14 ?ya14 HS ?ra14
   case ya14 => refine qI fun wS hSw => ?_; go_simp; try with_reducible rfl
   try simp only [Act.put, zA]
   refine qD ?_
   go_wp2
   go_ret2
   exact ⟨A5, n5, c5, by rw [HE.out]; rfl, by rw [HO.out]; exact own_lower HO5.out HBb.out.size, HN5.out, HBz.out⟩
end Go.Proofs.YtolaojkcofbkhaaGreat
