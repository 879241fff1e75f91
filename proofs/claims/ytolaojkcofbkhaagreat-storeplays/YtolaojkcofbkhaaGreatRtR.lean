import Derived.Test.YtolaojkcofbkhaaGreatPgPl
import Derived.Test.YtolaojkcofbkhaaGreatRtFirst
namespace Go.Proofs.YtolaojkcofbkhaaGreat
set_option maxRecDepth 100000
set_option maxHeartbeats 4000000
open Go.RowKit
abbrev RCeO (g : Nat) (c : Ce) : Ob := CeT 43 g c
def TR (ge : Nat) (d : St) (gw : Nat) (t : Va) (gz : Nat) (c : Ce) : Ob := (RV ge d gw t).and (RCeO gz c)
theorem TR.ok (ge : Nat) (d : St) (gw : Nat) (t : Va) (gz : Nat) (c : Ce) : (TR ge d gw t gz c).Ok := (RV.ok ge d gw t).and (CeT.ok _ gz c)
theorem tr_p (gz : Nat) (c : Ce) : Foc fun P => P.and (RCeO gz c) := Foc.one Foc.self (CeT.ok _ gz c)
theorem tr_d (gw : Nat) (t : Va) (gz : Nat) (c : Ce) : Foc fun P => (P.and (RVtO gw t)).and (RCeO gz c) := Foc.one (Foc.one Foc.self (RVtO.ok gw t)) (CeT.ok _ gz c)
theorem tr_v (ge : Nat) (d : St) (gz : Nat) (c : Ce) : Foc fun P => ((RDvO ge d).and P).and (RCeO gz c) := Foc.one (Foc.two Foc.self (RDvO.ok ge d)) (CeT.ok _ gz c)
theorem tr_c (ge : Nat) (d : St) (gw : Nat) (t : Va) : Foc fun P => (RV ge d gw t).and P := Foc.two Foc.self (RV.ok ge d gw t)
section
variable {C : Ob → Ob} {w wr : World} {ge gw gz : Nat} {d : St} {t : Va} {c : Ce} {X : Nat → Prop}
theorem rdsync_on (hC : Foc C) (h : On w (C (RDvO ge d)) wr X) (hW : d.W.length ≤ 100000) :
 Calls Tryz.prog 101 #[.pointer (some ⟨ge, 0, none⟩)] wr fun e w' => e = .returned (.int .i64 (caE d)) ∧ On w (C (RDvO ge (syS d))) w' X ∧ Stay X wr w' :=
 hC.leave h fun F h1 => rsync_any wr F ge d h1 hW
theorem rdbeat_on (hC : Foc C) (h : On w (C (RDvO ge d)) wr X) :
 Calls Tryz.prog 102 #[.pointer (some ⟨ge, 0, none⟩)] wr fun e w' => e = .returned (.int .i64 (caE d)) ∧ On w (C (RDvO ge (beS d))) w' X ∧ Stay X wr w' :=
 hC.leave h fun F h1 => rbeat_any wr F ge d h1
theorem rdbound_on (hC : Foc C) (h : On w (C (RDvO ge d)) wr X) (i : Int) (hi : i ≤ 9223372036854775807) :
 Calls Tryz.prog 21 #[.pointer (some ⟨ge, 0, none⟩), .int .i64 i] wr fun e w' => e = .returned (.tuple #[]) ∧ On w (C (RDvO ge (d.bound i))) w' X ∧ Stay X wr w' :=
 hC.leave h fun F h1 => rbound_c wr F ge d h1 i hi
theorem rdcrash_on (hC : Foc C) (h : On w (C (RDvO ge d)) wr X) (KA : Option Addr) (kn kc : Nat) (keep : List Bool) (hk : Lst wr 0 wr.heap.size KA kn (keep.map .bool)) (hX : 0 < kn → ∀ x, KA.map (·.block) = some x → X x ∨ x < w.heap.size) (hW : d.W.length ≤ 1000000) :
 Calls Tryz.prog 28 #[.pointer (some ⟨ge, 0, none⟩), .slice KA kn kc] wr fun e w' => e = .returned (.tuple #[]) ∧ On w (C (RDvO ge (d.crash keep))) w' X ∧ Stay X wr w' := by
 obtain ⟨F, h1, h2, h3, hf⟩ := h.at_ hC
 refine (rcrash_c wr F ge d h1 KA kn kc keep hk (fun h0 u hu e => ?_) hW).mono ?_
 · rcases hX h0 u hu with hx | hx
   · exact h3 u hx e
   · have := h2 u e; omega
 rintro e w' ⟨rfl, hl⟩
 obtain ⟨k1, k2, k3⟩ := hf w' (RDvO ge (d.crash keep)) hl
 exact ⟨rfl, k1, k2, k3⟩
theorem rdover_on (hC : Foc C) (h : On w (C (RDvO ge d)) wr X) (i : Int) (l : List UInt8) (hW : d.W.length ≤ 100000) :
 Calls Tryz.prog 23 #[.pointer (some ⟨ge, 0, none⟩), .int .i64 i, .string (str l)] wr fun e w' => e = .returned (.int .i64 (ovE d i l.length)) ∧ On w (C (RDvO ge (ovS d i l))) w' X ∧ Stay X wr w' :=
 hC.leave h fun F h1 => rover_any wr F ge d h1 i l hW
theorem rdread_on (hC : Foc C) (h : On w (C (RDvO ge d)) wr X) (i : Int) (hW : d.W.length ≤ 1000000) :
 Calls Tryz.prog 25 #[.pointer (some ⟨ge, 0, none⟩), .int .i64 i] wr fun e w' => e = .returned (.tuple #[.string (str (rdB d i)), .int .i64 (rdE d i)]) ∧ wr = w' := by
 obtain ⟨F, h1, _⟩ := h.at_ hC
 exact rread_any wr F ge d h1 i hW
theorem rlook_on (hC : Foc C) (h : On w (C (RVtO gw t)) wr X) : ∃ A k, wr.cell? ⟨gw, 0, none⟩ = some (.slice A t.L.length k) := by
 obtain ⟨F, ⟨A, k, B, b, h1⟩, _⟩ := h.at_ hC
 exact ⟨A, k, h1.cells.1⟩
theorem rpwrite_on (hC : Foc C) (h : On w (C (RV ge d gw t)) wr X) (p : Pg) (hp : p.wf) (i : Int) (hi : i64ok i) (l : List UInt8) (hW : d.W.length ≤ 100000) (hG : t.G.length ≤ 1000000) (hL : t.L.length ≤ 1000000) :
 Calls Tryz.prog 58 #[.pointer (some ⟨ge, 0, none⟩), .pointer (some ⟨gw, 0, none⟩), .int .i64 i, (.agg #[.int .i64 (p).k.t, .int .i64 (p).k.c, .int .i64 (p).k.e, .int .i64 (p).id, .int .i64 (p).ver]), .string (str l)] wr fun e w' => e = .returned (.int .i64 (pwE d t i p l.length)) ∧ On w (C (RV ge (pwD d t i p l.length) gw (pwV d t i p l))) w' X ∧ Stay X wr w' :=
 hC.leave h fun F h1 => rpwrite_c wr F ge gw d t h1 p hp i hi l hW hG hL
theorem rpread_on (hC : Foc C) (h : On w (C (RV ge d gw t)) wr X) (p : Pg) (hp : p.wf) (i : Int) (hi : i64ok i) (hW : d.W.length ≤ 1000000) (hG : t.G.length ≤ 1000000) (hL : t.L.length ≤ 1000000) :
 Calls Tryz.prog 69 #[.pointer (some ⟨ge, 0, none⟩), .pointer (some ⟨gw, 0, none⟩), .int .i64 i, (.agg #[.int .i64 (p).k.t, .int .i64 (p).k.c, .int .i64 (p).k.e, .int .i64 (p).id, .int .i64 (p).ver])] wr fun e w' => e = .returned (.tuple #[.string (str (prB d t i p)), .int .i64 (prE d t i p)]) ∧ Below wr.heap.size wr w' := by
 obtain ⟨F, ⟨A, B, h1, h2, _, _⟩, _⟩ := h.at_ hC
 exact rpread_c wr A B ge gw d t h1 h2 p hp i hi hW hG hL
theorem rput_on (hC : Foc C) (h : On w (C (TR ge d gw t gz c)) wr X) (l : List UInt8) (hW : d.W.length ≤ 50000) (hL : t.L.length ≤ 500000) (hG : t.G.length ≤ 500000) (hv : c.ver ≤ 500000) :
 Calls Tryz.prog 59 #[.pointer (some ⟨ge, 0, none⟩), .pointer (some ⟨gw, 0, none⟩), .pointer (some ⟨gz, 0, none⟩), .string (str l)] wr fun e w' => e = .returned (.int .i64 (ptE d t c l.length)) ∧ On w (C (TR ge (ptD d t c l.length) gw (ptV d t c l) gz (ptC d t c l.length))) w' X ∧ Stay X wr w' := by
 have hw1 := up1 (n := c.ver) (by omega)
 have hw2 := up1 (n := t.L.length) (by omega)
 obtain ⟨m1, m2, m3⟩ := mod2 (c.ver + 1)
 have HI : Hid (rtI (nxt t c) = (((c.ver + 1) % 2 : Nat) : Int)) := hid rfl
 have HP1 : Hid ((rtP (nxt t c)).ver = ((c.ver + 1 : Nat) : Int) ∧ (rtP (nxt t c)).id = ((t.L.length + 1 : Nat) : Int)) := hid ⟨rfl, rfl⟩
 have hwf : (rtP (nxt t c)).wf := rtP_wf (by show c.ver + 1 ≤ _; omega) (by show t.L.length + 1 ≤ _; omega)
 have HW2 : Hid ((pwD d t (rtI (nxt t c)) (rtP (nxt t c)) l.length).W.length ≤ 100000) := hid (by have := pwD_W d t (rtI (nxt t c)) (rtP (nxt t c)) l.length; omega)
 have hpw := rpwrite_on (hC.comp (tr_p gz c)) h (rtP (nxt t c)) hwf (rtI (nxt t c)) (rtI_ok _) l (by omega) (by omega) (by omega)
 obtain ⟨hb, -, -⟩ := ce_at (hC.comp (tr_c ge d gw t)) h
 obtain ⟨x0, x1⟩ := ce_cells hb
 obtain ⟨LA, lk, y0⟩ := rlook_on (hC.comp (tr_v ge d gz c)) h
 have hpw2 : Calls Tryz.prog 58 #[.pointer (some ⟨ge, 0, none⟩), .pointer (some ⟨gw, 0, none⟩), .int .i64 (((c.ver + 1) % 2 : Nat) : Int), .agg #[.int .i64 0, .int .i64 0, .int .i64 0, .int .i64 ((t.L.length + 1 : Nat) : Int), .int .i64 ((c.ver + 1 : Nat) : Int)], .string (str l)] wr _ := hpw
 have HPW := hid hpw2
 have hq := @pt_err d t c l.length
 have hp := @pt_on d t c l.length
 have HQ := hid hq
 have HP := hid hp
 have HV : Hid (ptV d t c l = pwV d t (rtI (nxt t c)) (rtP (nxt t c)) l) := hid rfl
 have HN : Hid (nxt t c = ⟨c.ver + 1, t.L.length + 1⟩) := hid rfl
 clear h hW hL hG hv hb hq hp hpw hpw2 hwf
 generalize pwE d t (rtI (nxt t c)) (rtP (nxt t c)) l.length = E1 at *
 generalize pwD d t (rtI (nxt t c)) (rtP (nxt t c)) l.length = D1 at *
 generalize pwV d t (rtI (nxt t c)) (rtP (nxt t c)) l = V1 at *
 rw [HN.out] at HP
 generalize c.ver + 1 = cv at *
 generalize t.L.length + 1 = ml at *
 generalize t.L.length = tl at *
 generalize ((cv % 2 : Nat) : Int) = r at *
 go_enter Tryz.func59, Tryz.ntmps59
 go_wp2_with fail
 refine HPW.out.mono ?_
 rintro e w6 ⟨rfl, hv6, hk6⟩
 have HC6 := hid hv6
 have HY6 := hid hk6
 clear hv6 hk6 HPW x0 x1 y0 m1 m2 m3
 by_cases hz : E1 = 0
 · obtain ⟨q1, q2, q3⟩ := HP.out hz
   have hs := rdsync_on (hC.comp (tr_d gw V1 gz c)) HC6.out HW2.out
   subst hz
   have Q := hid (And.intro q1 (And.intro q2 q3))
   clear q1 q2 q3 HQ HP
   go_wp2_with fail
   refine hs.mono ?_
   rintro e w7 ⟨rfl, hv7, hk7⟩
   have H7 := hid hv7
   have HY7 := hid (HY6.out.trans hk7)
   clear hs hv7 hk7 HC6 HY6
   by_cases h2 : caE D1 = 0
   · have hbt := rdbeat_on (hC.comp (tr_d gw V1 gz c)) H7.out
     rw [h2]
     clear h2
     go_wp2_with fail
     refine hbt.mono ?_
     rintro e w8 ⟨rfl, hv8, hk8⟩
     have H8 := hid hv8
     have HY8 := hid (HY7.out.trans hk8)
     clear hbt hv8 hk8 H7 HY7
     by_cases h3 : caE (syS D1) = 0
     · obtain ⟨q1, q2, q3⟩ := Q.out
       rw [if_pos h3] at q3
       rw [h3] at q1
       have Q2 := hid (And.intro q1 (And.intro q2 q3))
       rw [h3]
       clear h3 q1 q2 q3 Q
       obtain ⟨hb8, hx8, -⟩ := ce_at (hC.comp (tr_c ge _ gw V1)) H8.out
       obtain ⟨x0, x1⟩ := ce_cells hb8
       have f0 := hb8.frozen 0
       have f1 := hb8.frozen 1
       have hb9 : Blk ((w8.setCell ⟨gz, 0, none⟩ (.int .i64 (cv : Int))).setCell ⟨gz, 1, none⟩ (.int .i64 (ml : Int))) gz 43 #[.int .i64 (cv : Int), .int .i64 (ml : Int)] := (hb8.store 0 (.int .i64 (cv : Int))).store 1 (.int .i64 (ml : Int))
       have hg9 : w8.grownBy ((w8.setCell ⟨gz, 0, none⟩ (.int .i64 (cv : Int))).setCell ⟨gz, 1, none⟩ (.int .i64 (ml : Int))) (some gz) := grown_setCells gz [.int .i64 (cv : Int), .int .i64 (ml : Int)] 0 w8
       obtain ⟨k1, k2⟩ := ce_set (c' := ⟨cv, ml⟩) (hC.comp (tr_c ge _ gw V1)) H8.out hb9 hg9
       have HF := hid k1
       have HY9 := hid (HY8.out.trans k2)
       clear hb8 hx8 hb9 hg9 k1 k2 H8
       go_wp2
       go_ret
       exact ⟨by rw [Q2.out.1]; rfl, by rw [Q2.out.2.1, Q2.out.2.2, HV.out]; exact HF.out, HY9.out⟩
     · obtain ⟨q1, q2, q3⟩ := Q.out
       rw [if_neg h3] at q3
       have z1 : (caE (syS D1) == 0) = false := by simpa using h3
       have z2 : (caE (syS D1) != 0) = true := by simpa using h3
       have z3 : decide (caE (syS D1) = 0) = false := by simpa using h3
       have Q2 := hid (And.intro q1 (And.intro q2 q3))
       clear Q q1 q2 q3 h3
       generalize caE (syS D1) = E3 at *
       go_wp2
       go_ret
       exact ⟨by rw [Q2.out.1]; rfl, by rw [Q2.out.2.1, Q2.out.2.2, HV.out]; exact H8.out, HY8.out⟩
   · obtain ⟨q1, q2, q3⟩ := Q.out
     have e1 := syS_off h2
     have e2 := beS_off h2
     rw [e1] at H7 q1 q2 q3
     rw [e2] at q2
     rw [if_neg h2] at q3
     have z1 : (caE D1 == 0) = false := by simpa using h2
     have z2 : (caE D1 != 0) = true := by simpa using h2
     have z3 : decide (caE D1 = 0) = false := by simpa using h2
     have Q2 := hid (And.intro q1 (And.intro q2 q3))
     clear Q e1 e2 q1 q2 q3 h2
     generalize caE D1 = E3 at *
     go_wp2
     go_ret
     exact ⟨by rw [Q2.out.1]; rfl, by rw [Q2.out.2.1, Q2.out.2.2, HV.out]; exact H7.out, HY7.out⟩
 · obtain ⟨q1, q2, q3⟩ := HQ.out hz
   have z1 : (E1 == 0) = false := by simpa using hz
   have z2 : (E1 != 0) = true := by simpa using hz
   have z3 : decide (E1 = 0) = false := by simpa using hz
   have Q2 := hid (And.intro q1 (And.intro q2 q3))
   clear q1 q2 q3 hz HQ HP
   go_wp2
   go_ret
   exact ⟨by rw [Q2.out.1]; rfl, by rw [Q2.out.2.1, Q2.out.2.2, HV.out]; exact HC6.out, HY6.out⟩
theorem rget_on (hC : Foc C) (hOk : ∀ P : Ob, P.Ok → (C P).Ok) (h : On w (C (TR ge d gw t gz c)) wr X) (hW : d.W.length ≤ 1000000) (hG : t.G.length ≤ 1000000) (hL : t.L.length ≤ 1000000) (hv : c.ver ≤ 500000) (hm : c.mark ≤ 600000) :
 Calls Tryz.prog 49 #[.pointer (some ⟨ge, 0, none⟩), .pointer (some ⟨gw, 0, none⟩), .pointer (some ⟨gz, 0, none⟩)] wr fun e w' => e = .returned (.tuple #[.string (str (gtB d t c)), .int .i64 (gtE d t c)]) ∧ Below wr.heap.size wr w' := by
 obtain ⟨hb, -, -⟩ := ce_at (hC.comp (tr_c ge d gw t)) h
 obtain ⟨x0, x1⟩ := ce_cells hb
 have HB := hid hb
 by_cases hz : c.ver = 0
 · have e1 : ((c.ver : Int) == 0) = true := by simp [hz]
   have e2 : decide ((c.ver : Int) = 0) = true := by simp [hz]
   have e3 : decide (c.ver = 0) = true := by simp [hz]
   have e4 : (c.ver == 0) = true := by simp [hz]
   have HE : Hid (gtE d t c = 90) := hid (if_pos hz)
   have HO : Hid (gtB d t c = []) := hid (if_pos hz)
   clear hb h hOk hv hm
   generalize c.ver = V at *
   clear hz
   go_enter Tryz.func49, Tryz.ntmps49
   go_wp2
   go_ret2
   exact ⟨by rw [HE.out, HO.out]; rfl, Below.refl _ _⟩
 · have e1 : ((c.ver : Int) == 0) = false := by simp; omega
   have e2 : decide ((c.ver : Int) = 0) = false := by simp; omega
   have e3 : decide (c.ver = 0) = false := by simpa using hz
   have e4 : (c.ver == 0) = false := by simpa using hz
   have HE : Hid (gtE d t c = prE d t (rtI c) (rtP c)) := hid (if_neg hz)
   have HO : Hid (gtB d t c = prB d t (rtI c) (rtP c)) := hid (if_neg hz)
   obtain ⟨m1, m2, m3⟩ := mod2 c.ver
   have hrd : Calls Tryz.prog 69 #[.pointer (some ⟨ge, 0, none⟩), .pointer (some ⟨gw, 0, none⟩), .int .i64 ((c.ver % 2 : Nat) : Int), .agg #[.int .i64 0, .int .i64 0, .int .i64 0, .int .i64 (c.mark : Int), .int .i64 (c.ver : Int)]] wr.drew fun e w' => e = .returned (.tuple #[.string (str (prB d t (rtI c) (rtP c))), .int .i64 (prE d t (rtI c) (rtP c))]) ∧ Below wr.drew.heap.size wr.drew w' :=
    rpread_on (hC.comp (tr_p gz c)) (h.go (hOk _ (TR.ok _ _ _ _ _ _)) (wr' := wr.drew) ((Below.refl _ _).drew)) (rtP c) (rtP_wf (by omega) (by omega)) (rtI c) (rtI_ok _) hW hG hL
   have HRD := hid hrd
   have hbd : Below wr.heap.size wr wr.drew := (Below.refl _ _).drew
   have HBD := hid hbd
   have HKD : Hid (Blk wr.drew gz 43 #[.int .i64 (c.ver : Int), .int .i64 (c.mark : Int)]) := hid hb
   generalize prE d t (rtI c) (rtP c) = PE at *
   generalize prB d t (rtI c) (rtP c) = PB at *
   generalize ((c.ver % 2 : Nat) : Int) = r at *
   clear hb h hOk hv hm hrd hbd HB hW hG hL hz
   go_enter Tryz.func49, Tryz.ntmps49
   go_wp2_with fail
   clear e1 e2 e3 e4 x0 x1
   refine wp_region_held_drew (S := fun wx => wx.cell? ⟨gz, 0, none⟩ = some (.int .i64 (c.ver : Int)) ∧ wx.cell? ⟨gz, 1, none⟩ = some (.int .i64 (c.mark : Int))) (by kernel_rfl) (ce_cells HKD.out) (fun HS => ?_)
   generalize wr.drew = w5 at *
   refine qT 0 ?va0 ?ya0 HS ?ra0
   case ya0 => refine qI fun wS hSw => ?_; go_simp; try with_reducible rfl
   try simp only [Act.put, zA]
   refine qT 1 ?va1 ?ya1 HS ?ra1
   case ya1 => refine qI fun wS hSw => ?_; go_simp; try with_reducible rfl
   try simp only [Act.put, zA]
   refine qT 2 ?va2 ?ya2 HS ?ra2
   case ya2 => refine qI fun wS hSw => ?_; go_simp; try with_reducible rfl
   try simp only [Act.put, zA]
   refine qT 3 ?va3 ?ya3 HS ?ra3
   case ya3 => refine qI fun wS hSw => ?_; go_simp; try with_reducible rfl
   try simp only [Act.put, zA]
   refine qT 4 ?va4 ?ya4 HS ?ra4
   case ya4 => refine qI fun wS hSw => ?_; go_simp; try with_reducible rfl
   try simp only [Act.put, zA]
   refine qT 5 ?va5 ?ya5 HS ?ra5
   case ya5 => refine qI fun wS hSw => ?_; go_simp; try with_reducible rfl
   try simp only [Act.put, zA]
   refine qT 6 ?va6 ?ya6 HS ?ra6
   case ya6 => refine qI fun wS hSw => ?_; go_simp; try with_reducible rfl
   try simp only [Act.put, zA]
   refine qT 7 ?va7 ?ya7 HS ?ra7
   case ya7 => refine qI fun wS hSw => ?_; go_simp; try with_reducible rfl
   try simp only [Act.put, zA]
   refine qT 8 ?va8 ?ya8 HS ?ra8
   case ya8 => refine qI fun wS hSw => ?_; go_simp; try with_reducible rfl
   try simp only [Act.put, zA]
   refine qT 9 ?va9 ?ya9 HS ?ra9
   case ya9 => refine qI fun wS hSw => ?_; go_simp; try with_reducible rfl
   try simp only [Act.put, zA]
   refine qT 10 ?va10 ?ya10 HS ?ra10
   case ya10 => refine qI fun wS hSw => ?_; go_simp; try with_reducible rfl
   try simp only [Act.put, zA]
   refine qT 11 ?va11 ?ya11 HS ?ra11
   case ya11 => refine qI fun wS hSw => ?_; go_simp; try with_reducible rfl
   try simp only [Act.put, zA]
   refine qT 12 ?va12 ?ya12 HS ?ra12
   case ya12 => refine qI fun wS hSw => ?_; go_simp; try with_reducible rfl
   try simp only [Act.put, zA]
   refine qT 13 ?va13 ?ya13 HS ?ra13
   case ya13 => refine qI fun wS hSw => ?_; go_simp; try with_reducible rfl
   try simp only [Act.put, zA]
   refine qT 14 ?va14 ?ya14 HS ?ra14
   case ya14 => refine qI fun wS hSw => ?_; go_simp; try with_reducible rfl
   try simp only [Act.put, zA]
   refine qT 15 ?va15 ?ya15 HS ?ra15
   case ya15 => refine qI fun wS hSw => ?_; go_simp; try with_reducible rfl
   try simp only [Act.put, zA]
   refine qR 16 fun K hK => ?_
   go_simp
   refine HRD.out.mono ?_
   rintro e w6 ⟨rfl, hb5⟩
   have HBz := hid (HBD.out.trans (hb5.mono HBD.out.size))
   have HKz := hid (HKD.out.keep (hb5.block gz HKD.out.lt))
   clear hb5
   refine hK.out _ _ (ce_cells HKz.out) (fun HS => ?_)
   clear hK K
   try simp only [Act.put, zA]
   refine qT 17 ?va17 ?ya17 HS ?ra17
   case ya17 => refine qI fun wS hSw => ?_; go_simp; try with_reducible rfl
   try simp only [Act.put, zA]
   refine qT 18 ?va18 ?ya18 HS ?ra18
   case ya18 => refine qI fun wS hSw => ?_; go_simp; try with_reducible rfl
   try simp only [Act.put, zA]
   refine qT 19 ?va19 ?ya19 HS ?ra19
   case ya19 => refine qI fun wS hSw => ?_; go_simp; try with_reducible rfl
   try simp only [Act.put, zA]
   refine qT 20 ?va20 ?ya20 HS ?ra20
   case ya20 => refine qI fun wS hSw => ?_; go_simp; try with_reducible rfl
   try simp only [Act.put, zA]
   refine qD ?_
   go_wp2
   go_ret2
   exact ⟨by rw [HE.out, HO.out]; rfl, HBz.out⟩
end
def AB (gd gv gc ge gw gz : Nat) (d : St) (v : Va) (c : Ce) (d' : St) (t : Va) (c' : Ce) : Ob := (TC gd d gv v gc c).and (TR ge d' gw t gz c')
section
variable {w wr : World} {gd gv gc ge gw gz : Nat} {d d' : St} {v t : Va} {c c' : Ce} {X : Nat → Prop}
theorem AB.ok (gd gv gc ge gw gz : Nat) (d : St) (v : Va) (c : Ce) (d' : St) (t : Va) (c' : Ce) : (AB gd gv gc ge gw gz d v c d' t c').Ok := (TC.ok _ _ _ _ _ _).and (TR.ok _ _ _ _ _ _)
theorem foc_a (ge : Nat) (d' : St) (gw : Nat) (t : Va) (gz : Nat) (c' : Ce) : Foc fun P => P.and (TR ge d' gw t gz c') := Foc.one Foc.self (TR.ok _ _ _ _ _ _)
theorem foc_b (gd : Nat) (d : St) (gv : Nat) (v : Va) (gc : Nat) (c : Ce) : Foc fun P => (TC gd d gv v gc c).and P := Foc.two Foc.self (TC.ok _ _ _ _ _ _)
theorem ab_new (h : On w (TC gd d gv v gc c) wr X) {w4 : World} {G : Nat → Prop} (hr : RDev w4 G ge d') (hb : Below wr.heap.size wr w4) (hG : ∀ j, G j → wr.heap.size ≤ j) :
 On w (AB gd gv gc ge w4.heap.size (w4.heap.size + 1) d v c d' Va.new ⟨0, 0⟩) ((w4.alloc (.cells #[.slice none 0 0, .slice none 0 0] 40)).alloc (.cells #[.int .i64 0, .int .i64 0] 43)) X := by
 have hs5 : (w4.alloc (.cells #[.slice none 0 0, .slice none 0 0] 40)).heap.size = w4.heap.size + 1 := by simp
 have hb5 : Below w4.heap.size w4 (w4.alloc (.cells #[.slice none 0 0, .slice none 0 0] 40)) := (Below.refl _ _).alloc (nl _) _
 have hb6 : Below (w4.heap.size + 1) (w4.alloc (.cells #[.slice none 0 0, .slice none 0 0] 40)) ((w4.alloc (.cells #[.slice none 0 0, .slice none 0 0] 40)).alloc (.cells #[.int .i64 0, .int .i64 0] 43)) := (Below.refl _ _).alloc (by omega) _
 have hb46 : Below w4.heap.size w4 ((w4.alloc (.cells #[.slice none 0 0, .slice none 0 0] 40)).alloc (.cells #[.int .i64 0, .int .i64 0] 43)) := hb5.trans (hb6.mono (by omega))
 have hv := RVt.new w4
 have hc := Blk.new (w4.alloc (.cells #[.slice none 0 0, .slice none 0 0] 40)) 43 #[.int .i64 0, .int .i64 0]
 rw [hs5] at hc
 refine h.with_ (TC.ok _ _ _ _ _ _) (Q := TR ge d' w4.heap.size Va.new (w4.heap.size + 1) ⟨0, 0⟩) (G := fun j => (G j ∨ j = w4.heap.size) ∨ j = w4.heap.size + 1) ⟨fun j => G j ∨ j = w4.heap.size, fun j => j = w4.heap.size + 1, ⟨G, fun j => j = w4.heap.size, hr.bel hb46, hv.keep hb6.size (fun j hj => hb6.block j (by omega)), fun j hj e => ?_, fun _ => Iff.rfl⟩, ⟨hc, fun j => Iff.rfl⟩, fun j hj e => ?_, fun _ => Iff.rfl⟩ (hb.trans (hb46.mono hb.size)) (fun j hj => ?_)
 · have := hr.lt j hj
   omega
 · rcases hj with hj | hj
   · have := hr.lt j hj
     omega
   · omega
 · have := hb.size
   rcases hj with (hj | hj) | hj
   · exact hG j hj
   · omega
   · omega
end
end Go.Proofs.YtolaojkcofbkhaaGreat
