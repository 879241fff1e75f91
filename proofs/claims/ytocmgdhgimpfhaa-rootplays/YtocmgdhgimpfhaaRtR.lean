/- What the document's Put and Get of a root answer and leave, in their place among others. -/
import Derived.Test.YtocmgdhgimpfhaaRtW
import Derived.Test.YtocmgdhgimpfhaaRtPut
import Derived.Test.YtocmgdhgimpfhaaPgPl
namespace Go.Proofs.Ytocmgdhgimpfhaa
open Go.RowKit

abbrev RCeO (g : Nat) (c : Ce) : Ob := CeT 43 g c
/-- The document's device, vault and cell. -/
def TR (ge : Nat) (d : St) (gw : Nat) (t : Va) (gz : Nat) (c : Ce) : Ob := (RV ge d gw t).and (RCeO gz c)
theorem TR.ok (ge : Nat) (d : St) (gw : Nat) (t : Va) (gz : Nat) (c : Ce) : (TR ge d gw t gz c).Ok := (RV.ok ge d gw t).and (CeT.ok _ gz c)
theorem tr_p (gz : Nat) (c : Ce) : Foc fun P => P.and (RCeO gz c) := Foc.one Foc.self (CeT.ok _ gz c)
theorem tr_d (gw : Nat) (t : Va) (gz : Nat) (c : Ce) : Foc fun P => (P.and (RVtO gw t)).and (RCeO gz c) := Foc.one (Foc.one Foc.self (RVtO.ok gw t)) (CeT.ok _ gz c)
theorem tr_v (ge : Nat) (d : St) (gz : Nat) (c : Ce) : Foc fun P => ((RDvO ge d).and P).and (RCeO gz c) := Foc.one (Foc.two Foc.self (RDvO.ok ge d)) (CeT.ok _ gz c)
theorem tr_c (ge : Nat) (d : St) (gw : Nat) (t : Va) : Foc fun P => (RV ge d gw t).and P := Foc.two Foc.self (RV.ok ge d gw t)
section
variable {C : Ob → Ob} {w wr : World} {ge gw gz : Nat} {d : St} {t : Va} {c : Ce} {X : Nat → Prop}
theorem rdsync_on (hC : Foc C) (h : On w (C (RDvO ge d)) wr X) (hW : d.W.length ≤ 100000) :
    Calls Try.prog 37 #[.pointer (some ⟨ge, 0, none⟩)] wr fun e w' => e = .returned (.int .i64 (caE d)) ∧ On w (C (RDvO ge (syS d))) w' X ∧ Stay X wr w' :=
  hC.leave h fun F h1 => rsync_any wr F ge d h1 hW
theorem rdbeat_on (hC : Foc C) (h : On w (C (RDvO ge d)) wr X) :
    Calls Try.prog 38 #[.pointer (some ⟨ge, 0, none⟩)] wr fun e w' => e = .returned (.int .i64 (caE d)) ∧ On w (C (RDvO ge (beS d))) w' X ∧ Stay X wr w' :=
  hC.leave h fun F h1 => rbeat_any wr F ge d h1
theorem rdbound_on (hC : Foc C) (h : On w (C (RDvO ge d)) wr X) (i : Int) (hi : i ≤ 9223372036854775807) :
    Calls Try.prog 14 #[.pointer (some ⟨ge, 0, none⟩), .int .i64 i] wr fun e w' => e = .returned (.tuple #[]) ∧ On w (C (RDvO ge (d.bound i))) w' X ∧ Stay X wr w' :=
  hC.leave h fun F h1 => rbound_c wr F ge d h1 i hi
theorem rdcrash_on (hC : Foc C) (h : On w (C (RDvO ge d)) wr X) (KA : Option Addr) (kn kc : Nat) (keep : List Bool) (hk : Lst wr 0 wr.heap.size KA kn (keep.map .bool)) (hX : 0 < kn → ∀ x, KA.map (·.block) = some x → X x ∨ x < w.heap.size) (hW : d.W.length ≤ 1000000) :
    Calls Try.prog 16 #[.pointer (some ⟨ge, 0, none⟩), .slice KA kn kc] wr fun e w' => e = .returned (.tuple #[]) ∧ On w (C (RDvO ge (d.crash keep))) w' X ∧ Stay X wr w' := by
  obtain ⟨F, h1, h2, h3, hf⟩ := h.at_ hC
  refine (rcrash_c wr F ge d h1 KA kn kc keep hk (fun h0 u hu e => ?_) hW).mono ?_
  · rcases hX h0 u hu with hx | hx
    · exact h3 u hx e
    · have := h2 u e; omega
  rintro e w' ⟨rfl, hl⟩
  obtain ⟨k1, k2, k3⟩ := hf w' (RDvO ge (d.crash keep)) hl
  exact ⟨rfl, k1, k2, k3⟩
theorem rdwrite_on (hC : Foc C) (h : On w (C (RDvO ge d)) wr X) (i : Int) (l : List UInt8) (hW : d.W.length ≤ 100000) :
    Calls Try.prog 22 #[.pointer (some ⟨ge, 0, none⟩), .int .i64 i, .string (str l)] wr fun e w' => e = .returned (.int .i64 (wrE d i l.length)) ∧ On w (C (RDvO ge (wrS d i l))) w' X ∧ Stay X wr w' :=
  hC.leave h fun F h1 => rwrite_any wr F ge d h1 i l hW
theorem rdover_on (hC : Foc C) (h : On w (C (RDvO ge d)) wr X) (i : Int) (l : List UInt8) (hW : d.W.length ≤ 100000) :
    Calls Try.prog 18 #[.pointer (some ⟨ge, 0, none⟩), .int .i64 i, .string (str l)] wr fun e w' => e = .returned (.int .i64 (ovE d i l.length)) ∧ On w (C (RDvO ge (ovS d i l))) w' X ∧ Stay X wr w' :=
  hC.leave h fun F h1 => rover_any wr F ge d h1 i l hW
theorem rdread_on (hC : Foc C) (h : On w (C (RDvO ge d)) wr X) (i : Int) (hW : d.W.length ≤ 1000000) :
    Calls Try.prog 20 #[.pointer (some ⟨ge, 0, none⟩), .int .i64 i] wr fun e w' => e = .returned (.tuple #[.string (str (rdB d i)), .int .i64 (rdE d i)]) ∧ wr = w' := by
  obtain ⟨F, h1, _⟩ := h.at_ hC
  exact rread_any wr F ge d h1 i hW
theorem rvseal_on (hC : Foc C) (h : On w (C (RVtO gw t)) wr X) (k : Ky) (b p : List UInt8) (hG : t.G.length ≤ 1000000) (hL : t.L.length ≤ 1000000) :
    Calls Try.prog 24 #[.pointer (some ⟨gw, 0, none⟩), (.agg #[.int .i64 (k).t, .int .i64 (k).c, .int .i64 (k).e]), .string (str b), .string (str p)] wr fun e w' => e = .returned (.tuple #[.int .u64 (seH t k p.length : Int), .int .i64 (seE t k p.length)]) ∧ On w (C (RVtO gw (seS t k b p))) w' X ∧ Stay X wr w' :=
  hC.leave h fun F h1 => rseal_c wr F gw t h1 k b p hG hL
theorem rlook_on (hC : Foc C) (h : On w (C (RVtO gw t)) wr X) : ∃ A k, wr.cell? ⟨gw, 0, none⟩ = some (.slice A t.L.length k) := by
  obtain ⟨F, ⟨A, k, B, b, h1⟩, _⟩ := h.at_ hC
  exact ⟨A, k, h1.cells.1⟩
theorem rpwrite_on (hC : Foc C) (h : On w (C (RV ge d gw t)) wr X) (p : Pg) (hp : p.wf) (i : Int) (hi : i64ok i) (l : List UInt8) (hW : d.W.length ≤ 100000) (hG : t.G.length ≤ 1000000) (hL : t.L.length ≤ 1000000) :
    Calls Try.prog 36 #[.pointer (some ⟨ge, 0, none⟩), .pointer (some ⟨gw, 0, none⟩), .int .i64 i, (.agg #[.int .i64 (p).k.t, .int .i64 (p).k.c, .int .i64 (p).k.e, .int .i64 (p).id, .int .i64 (p).ver]), .string (str l)] wr fun e w' => e = .returned (.int .i64 (pwE d t i p l.length)) ∧ On w (C (RV ge (pwD d t i p l.length) gw (pwV d t i p l))) w' X ∧ Stay X wr w' :=
  hC.leave h fun F h1 => rpwrite_c wr F ge gw d t h1 p hp i hi l hW hG hL
theorem rpread_on (hC : Foc C) (h : On w (C (RV ge d gw t)) wr X) (p : Pg) (hp : p.wf) (i : Int) (hi : i64ok i) (hW : d.W.length ≤ 1000000) (hG : t.G.length ≤ 1000000) (hL : t.L.length ≤ 1000000) :
    Calls Try.prog 52 #[.pointer (some ⟨ge, 0, none⟩), .pointer (some ⟨gw, 0, none⟩), .int .i64 i, (.agg #[.int .i64 (p).k.t, .int .i64 (p).k.c, .int .i64 (p).k.e, .int .i64 (p).id, .int .i64 (p).ver])] wr fun e w' => e = .returned (.tuple #[.string (str (prB d t i p)), .int .i64 (prE d t i p)]) ∧ Below wr.heap.size wr w' := by
  obtain ⟨F, ⟨A, B, h1, h2, _, _⟩, _⟩ := h.at_ hC
  exact rpread_c wr A B ge gw d t h1 h2 p hp i hi hW hG hL
set_option maxRecDepth 100000 in
set_option maxHeartbeats 4000000 in
theorem rput_on (hC : Foc C) (h : On w (C (TR ge d gw t gz c)) wr X) (l : List UInt8) (hW : d.W.length ≤ 50000) (hL : t.L.length ≤ 500000) (hG : t.G.length ≤ 500000) (hv : c.ver ≤ 500000) :
    Calls Try.prog 12 #[.pointer (some ⟨ge, 0, none⟩), .pointer (some ⟨gw, 0, none⟩), .pointer (some ⟨gz, 0, none⟩), .string (str l)] wr fun e w' => e = .returned (.int .i64 (ptE d t c l.length)) ∧ On w (C (TR ge (ptD d t c l.length) gw (ptV d t c l) gz (ptC d t c l.length))) w' X ∧ Stay X wr w' := by
  have hw1 := up1 (n := c.ver) (by omega)
  have hw2 := up1 (n := t.L.length) (by omega)
  obtain ⟨m1, m2, m3⟩ := mod2 (c.ver + 1)
  have HI : Hid (rtI (nxt t c) = (((c.ver + 1) % 2 : Nat) : Int)) := hid rfl
  have HP1 : Hid ((rtP (nxt t c)).ver = ((c.ver + 1 : Nat) : Int) ∧ (rtP (nxt t c)).id = ((t.L.length + 1 : Nat) : Int)) := hid ⟨rfl, rfl⟩
  have hwf : (rtP (nxt t c)).wf := rtP_wf (by show c.ver + 1 ≤ _; omega) (by show t.L.length + 1 ≤ _; omega)
  have HW2 : Hid ((pwD d t (rtI (nxt t c)) (rtP (nxt t c)) l.length).W.length ≤ 100000) := hid (by have := pwD_W d t (rtI (nxt t c)) (rtP (nxt t c)) l.length; omega)
  have hpw := rpwrite_on (hC.comp (tr_p gz c)) h (rtP (nxt t c)) hwf (rtI (nxt t c)) (rtI_ok _) l (by omega) (by omega) (by omega)
  obtain ⟨hb, -, -⟩ := ce_at (hC.comp (tr_c ge d gw t)) h
  obtain ⟨x0, x1⟩ := ce_cells hb
  obtain ⟨LA, lk, y0⟩ := rlook_on (hC.comp (tr_v ge d gz c)) h
  have hpw2 : Calls Try.prog 36 #[.pointer (some ⟨ge, 0, none⟩), .pointer (some ⟨gw, 0, none⟩), .int .i64 (((c.ver + 1) % 2 : Nat) : Int), .agg #[.int .i64 0, .int .i64 0, .int .i64 0, .int .i64 ((t.L.length + 1 : Nat) : Int), .int .i64 ((c.ver + 1 : Nat) : Int)], .string (str l)] wr _ := hpw
  have HPW := hid hpw2
  have hq := @pt_err d t c l.length
  have hp := @pt_on d t c l.length
  have HQ := hid hq
  have HP := hid hp
  have HV : Hid (ptV d t c l = pwV d t (rtI (nxt t c)) (rtP (nxt t c)) l) := hid rfl
  have HN : Hid (nxt t c = ⟨c.ver + 1, t.L.length + 1⟩) := hid rfl
  clear h hW hL hG hv hb hq hp hpw hpw2 hwf
  generalize pwE d t (rtI (nxt t c)) (rtP (nxt t c)) l.length = E1 at *
  generalize pwD d t (rtI (nxt t c)) (rtP (nxt t c)) l.length = D1 at *
  generalize pwV d t (rtI (nxt t c)) (rtP (nxt t c)) l = V1 at *
  rw [HN.out] at HP
  generalize c.ver + 1 = cv at *
  generalize t.L.length + 1 = ml at *
  generalize t.L.length = tl at *
  generalize ((cv % 2 : Nat) : Int) = r at *
  go_enter Try.func12, Try.ntmps12
  go_wp2_with fail
  refine HPW.out.mono ?_
  rintro e w6 ⟨rfl, hv6, hk6⟩
  have HC6 := hid hv6
  have HY6 := hid hk6
  clear hv6 hk6 HPW x0 x1 y0 m1 m2 m3
  by_cases hz : E1 = 0
  · obtain ⟨q1, q2, q3⟩ := HP.out hz
    have hs := rdsync_on (hC.comp (tr_d gw V1 gz c)) HC6.out HW2.out
    subst hz
    have Q := hid (And.intro q1 (And.intro q2 q3))
    clear q1 q2 q3 HQ HP
    go_wp2_with fail
    refine hs.mono ?_
    rintro e w7 ⟨rfl, hv7, hk7⟩
    have H7 := hid hv7
    have HY7 := hid (HY6.out.trans hk7)
    clear hs hv7 hk7 HC6 HY6
    by_cases h2 : caE D1 = 0
    · have hbt := rdbeat_on (hC.comp (tr_d gw V1 gz c)) H7.out
      rw [h2]
      clear h2
      go_wp2_with fail
      refine hbt.mono ?_
      rintro e w8 ⟨rfl, hv8, hk8⟩
      have H8 := hid hv8
      have HY8 := hid (HY7.out.trans hk8)
      clear hbt hv8 hk8 H7 HY7
      by_cases h3 : caE (syS D1) = 0
      · obtain ⟨q1, q2, q3⟩ := Q.out
        rw [if_pos h3] at q3
        rw [h3] at q1
        have Q2 := hid (And.intro q1 (And.intro q2 q3))
        rw [h3]
        clear h3 q1 q2 q3 Q
        obtain ⟨hb8, hx8, -⟩ := ce_at (hC.comp (tr_c ge _ gw V1)) H8.out
        obtain ⟨x0, x1⟩ := ce_cells hb8
        have f0 := hb8.frozen 0
        have f1 := hb8.frozen 1
        have hb9 : Blk ((w8.setCell ⟨gz, 0, none⟩ (.int .i64 (cv : Int))).setCell ⟨gz, 1, none⟩ (.int .i64 (ml : Int))) gz 43 #[.int .i64 (cv : Int), .int .i64 (ml : Int)] := (hb8.store 0 (.int .i64 (cv : Int))).store 1 (.int .i64 (ml : Int))
        have hg9 : w8.grownBy ((w8.setCell ⟨gz, 0, none⟩ (.int .i64 (cv : Int))).setCell ⟨gz, 1, none⟩ (.int .i64 (ml : Int))) (some gz) := grown_setCells gz [.int .i64 (cv : Int), .int .i64 (ml : Int)] 0 w8
        obtain ⟨k1, k2⟩ := ce_set (c' := ⟨cv, ml⟩) (hC.comp (tr_c ge _ gw V1)) H8.out hb9 hg9
        have HF := hid k1
        have HY9 := hid (HY8.out.trans k2)
        clear hb8 hx8 hb9 hg9 k1 k2 H8
        go_wp2
        go_ret
        exact ⟨by rw [Q2.out.1]; rfl, by rw [Q2.out.2.1, Q2.out.2.2, HV.out]; exact HF.out, HY9.out⟩
      · obtain ⟨q1, q2, q3⟩ := Q.out
        rw [if_neg h3] at q3
        have z1 : (caE (syS D1) == 0) = false := by simpa using h3
        have z2 : (caE (syS D1) != 0) = true := by simpa using h3
        have z3 : decide (caE (syS D1) = 0) = false := by simpa using h3
        have Q2 := hid (And.intro q1 (And.intro q2 q3))
        clear Q q1 q2 q3 h3
        generalize caE (syS D1) = E3 at *
        go_wp2
        go_ret
        exact ⟨by rw [Q2.out.1]; rfl, by rw [Q2.out.2.1, Q2.out.2.2, HV.out]; exact H8.out, HY8.out⟩
    · obtain ⟨q1, q2, q3⟩ := Q.out
      have e1 := syS_off h2
      have e2 := beS_off h2
      rw [e1] at H7 q1 q2 q3
      rw [e2] at q2
      rw [if_neg h2] at q3
      have z1 : (caE D1 == 0) = false := by simpa using h2
      have z2 : (caE D1 != 0) = true := by simpa using h2
      have z3 : decide (caE D1 = 0) = false := by simpa using h2
      have Q2 := hid (And.intro q1 (And.intro q2 q3))
      clear Q e1 e2 q1 q2 q3 h2
      generalize caE D1 = E3 at *
      go_wp2
      go_ret
      exact ⟨by rw [Q2.out.1]; rfl, by rw [Q2.out.2.1, Q2.out.2.2, HV.out]; exact H7.out, HY7.out⟩
  · obtain ⟨q1, q2, q3⟩ := HQ.out hz
    have z1 : (E1 == 0) = false := by simpa using hz
    have z2 : (E1 != 0) = true := by simpa using hz
    have z3 : decide (E1 = 0) = false := by simpa using hz
    have Q2 := hid (And.intro q1 (And.intro q2 q3))
    clear q1 q2 q3 hz HQ HP
    go_wp2
    go_ret
    exact ⟨by rw [Q2.out.1]; rfl, by rw [Q2.out.2.1, Q2.out.2.2, HV.out]; exact HC6.out, HY6.out⟩
set_option maxRecDepth 100000 in
set_option maxHeartbeats 4000000 in
theorem rget_on (hC : Foc C) (hOk : ∀ P : Ob, P.Ok → (C P).Ok) (h : On w (C (TR ge d gw t gz c)) wr X) (hW : d.W.length ≤ 1000000) (hG : t.G.length ≤ 1000000) (hL : t.L.length ≤ 1000000) (hv : c.ver ≤ 500000) (hm : c.mark ≤ 600000) :
    Calls Try.prog 26 #[.pointer (some ⟨ge, 0, none⟩), .pointer (some ⟨gw, 0, none⟩), .pointer (some ⟨gz, 0, none⟩)] wr fun e w' => e = .returned (.tuple #[.string (str (gtB d t c)), .int .i64 (gtE d t c)]) ∧ Below wr.heap.size wr w' := by
  obtain ⟨hb, -, -⟩ := ce_at (hC.comp (tr_c ge d gw t)) h
  obtain ⟨x0, x1⟩ := ce_cells hb
  have HB := hid hb
  by_cases hz : c.ver = 0
  · have e1 : ((c.ver : Int) == 0) = true := by simp [hz]
    have e2 : decide ((c.ver : Int) = 0) = true := by simp [hz]
    have e3 : decide (c.ver = 0) = true := by simp [hz]
    have e4 : (c.ver == 0) = true := by simp [hz]
    have HE : Hid (gtE d t c = 90) := hid (if_pos hz)
    have HO : Hid (gtB d t c = []) := hid (if_pos hz)
    clear hb h hOk hv hm
    generalize c.ver = V at *
    clear hz
    go_enter Try.func26, Try.ntmps26
    go_wp2
    go_ret2
    exact ⟨by rw [HE.out, HO.out]; rfl, Below.refl _ _⟩
  · have e1 : ((c.ver : Int) == 0) = false := by simp; omega
    have e2 : decide ((c.ver : Int) = 0) = false := by simp; omega
    have e3 : decide (c.ver = 0) = false := by simpa using hz
    have e4 : (c.ver == 0) = false := by simpa using hz
    have HE : Hid (gtE d t c = prE d t (rtI c) (rtP c)) := hid (if_neg hz)
    have HO : Hid (gtB d t c = prB d t (rtI c) (rtP c)) := hid (if_neg hz)
    obtain ⟨m1, m2, m3⟩ := mod2 c.ver
    have hrd : Calls Try.prog 52 #[.pointer (some ⟨ge, 0, none⟩), .pointer (some ⟨gw, 0, none⟩), .int .i64 ((c.ver % 2 : Nat) : Int), .agg #[.int .i64 0, .int .i64 0, .int .i64 0, .int .i64 (c.mark : Int), .int .i64 (c.ver : Int)]] wr.drew fun e w' => e = .returned (.tuple #[.string (str (prB d t (rtI c) (rtP c))), .int .i64 (prE d t (rtI c) (rtP c))]) ∧ Below wr.drew.heap.size wr.drew w' :=
      rpread_on (hC.comp (tr_p gz c)) (h.go (hOk _ (TR.ok _ _ _ _ _ _)) (wr' := wr.drew) ((Below.refl _ _).drew)) (rtP c) (rtP_wf (by omega) (by omega)) (rtI c) (rtI_ok _) hW hG hL
    have HRD := hid hrd
    have hbd : Below wr.heap.size wr wr.drew := (Below.refl _ _).drew
    have HBD := hid hbd
    have HKD : Hid (Blk wr.drew gz 43 #[.int .i64 (c.ver : Int), .int .i64 (c.mark : Int)]) := hid hb
    generalize prE d t (rtI c) (rtP c) = PE at *
    generalize prB d t (rtI c) (rtP c) = PB at *
    generalize ((c.ver % 2 : Nat) : Int) = r at *
    clear hb h hOk hv hm hrd hbd HB hW hG hL hz
    go_enter Try.func26, Try.ntmps26
    go_wp2_with fail
    clear e1 e2 e3 e4 x0 x1
    refine wp_region_held_drew (S := fun wx => wx.cell? ⟨gz, 0, none⟩ = some (.int .i64 (c.ver : Int)) ∧ wx.cell? ⟨gz, 1, none⟩ = some (.int .i64 (c.mark : Int))) (by kernel_rfl) (ce_cells HKD.out) (fun HS => ?_)
    generalize wr.drew = w5 at *
    refine wpAnyH_take (i := 0) (oi := ?oia0) (v := ?va0) ?hia0 (by kernel_rfl) (by kernel_rfl) (by kernel_rfl) ?hQa0 ?hya0 HS ?resta0
    case hia0 => simp only [List.getElem?_toArray, List.getElem?_cons_zero]; exact rfl
    case hQa0 => exact fun _ _ _ h => h
    case hya0 =>
      refine Or.inl ⟨by rfl, ?_⟩
      intro wS hSw
      go_simp
      try with_reducible rfl
    try simp only [Act.put, List.setIfInBounds_toArray, List.set_cons_zero, List.set_cons_succ]
    refine wpAnyH_take (i := 1) (oi := ?oia1) (v := ?va1) ?hia1 (by kernel_rfl) (by kernel_rfl) (by kernel_rfl) ?hQa1 ?hya1 HS ?resta1
    case hia1 => simp only [List.getElem?_toArray, List.getElem?_cons_succ, List.getElem?_cons_zero]; exact rfl
    case hQa1 => exact fun _ _ _ h => h
    case hya1 =>
      refine Or.inl ⟨by rfl, ?_⟩
      intro wS hSw
      go_simp
      try with_reducible rfl
    try simp only [Act.put, List.setIfInBounds_toArray, List.set_cons_zero, List.set_cons_succ]
    refine wpAnyH_take (i := 2) (oi := ?oia2) (v := ?va2) ?hia2 (by kernel_rfl) (by kernel_rfl) (by kernel_rfl) ?hQa2 ?hya2 HS ?resta2
    case hia2 => simp only [List.getElem?_toArray, List.getElem?_cons_succ, List.getElem?_cons_zero]; exact rfl
    case hQa2 => exact fun _ _ _ h => h
    case hya2 =>
      refine Or.inl ⟨by rfl, ?_⟩
      intro wS hSw
      go_simp
      try with_reducible rfl
    try simp only [Act.put, List.setIfInBounds_toArray, List.set_cons_zero, List.set_cons_succ]
    refine wpAnyH_take (i := 3) (oi := ?oia3) (v := ?va3) ?hia3 (by kernel_rfl) (by kernel_rfl) (by kernel_rfl) ?hQa3 ?hya3 HS ?resta3
    case hia3 => simp only [List.getElem?_toArray, List.getElem?_cons_succ, List.getElem?_cons_zero]; exact rfl
    case hQa3 => exact fun _ _ _ h => h
    case hya3 =>
      refine Or.inl ⟨by rfl, ?_⟩
      intro wS hSw
      go_simp
      try with_reducible rfl
    try simp only [Act.put, List.setIfInBounds_toArray, List.set_cons_zero, List.set_cons_succ]
    refine wpAnyH_take (i := 4) (oi := ?oia4) (v := ?va4) ?hia4 (by kernel_rfl) (by kernel_rfl) (by kernel_rfl) ?hQa4 ?hya4 HS ?resta4
    case hia4 => simp only [List.getElem?_toArray, List.getElem?_cons_succ, List.getElem?_cons_zero]; exact rfl
    case hQa4 => exact fun _ _ _ h => h
    case hya4 =>
      refine Or.inl ⟨by rfl, ?_⟩
      intro wS hSw
      go_simp
      try with_reducible rfl
    try simp only [Act.put, List.setIfInBounds_toArray, List.set_cons_zero, List.set_cons_succ]
    refine wpAnyH_take (i := 5) (oi := ?oia5) (v := ?va5) ?hia5 (by kernel_rfl) (by kernel_rfl) (by kernel_rfl) ?hQa5 ?hya5 HS ?resta5
    case hia5 => simp only [List.getElem?_toArray, List.getElem?_cons_succ, List.getElem?_cons_zero]; exact rfl
    case hQa5 => exact fun _ _ _ h => h
    case hya5 =>
      refine Or.inl ⟨by rfl, ?_⟩
      intro wS hSw
      go_simp
      try with_reducible rfl
    try simp only [Act.put, List.setIfInBounds_toArray, List.set_cons_zero, List.set_cons_succ]
    refine wpAnyH_take (i := 6) (oi := ?oia6) (v := ?va6) ?hia6 (by kernel_rfl) (by kernel_rfl) (by kernel_rfl) ?hQa6 ?hya6 HS ?resta6
    case hia6 => simp only [List.getElem?_toArray, List.getElem?_cons_succ, List.getElem?_cons_zero]; exact rfl
    case hQa6 => exact fun _ _ _ h => h
    case hya6 =>
      refine Or.inl ⟨by rfl, ?_⟩
      intro wS hSw
      go_simp
      try with_reducible rfl
    try simp only [Act.put, List.setIfInBounds_toArray, List.set_cons_zero, List.set_cons_succ]
    refine wpAnyH_take (i := 7) (oi := ?oia7) (v := ?va7) ?hia7 (by kernel_rfl) (by kernel_rfl) (by kernel_rfl) ?hQa7 ?hya7 HS ?resta7
    case hia7 => simp only [List.getElem?_toArray, List.getElem?_cons_succ, List.getElem?_cons_zero]; exact rfl
    case hQa7 => exact fun _ _ _ h => h
    case hya7 =>
      refine Or.inl ⟨by rfl, ?_⟩
      intro wS hSw
      go_simp
      try with_reducible rfl
    try simp only [Act.put, List.setIfInBounds_toArray, List.set_cons_zero, List.set_cons_succ]
    refine wpAnyH_take (i := 8) (oi := ?oia8) (v := ?va8) ?hia8 (by kernel_rfl) (by kernel_rfl) (by kernel_rfl) ?hQa8 ?hya8 HS ?resta8
    case hia8 => simp only [List.getElem?_toArray, List.getElem?_cons_succ, List.getElem?_cons_zero]; exact rfl
    case hQa8 => exact fun _ _ _ h => h
    case hya8 =>
      refine Or.inl ⟨by rfl, ?_⟩
      intro wS hSw
      go_simp
      try with_reducible rfl
    try simp only [Act.put, List.setIfInBounds_toArray, List.set_cons_zero, List.set_cons_succ]
    refine wpAnyH_take (i := 9) (oi := ?oia9) (v := ?va9) ?hia9 (by kernel_rfl) (by kernel_rfl) (by kernel_rfl) ?hQa9 ?hya9 HS ?resta9
    case hia9 => simp only [List.getElem?_toArray, List.getElem?_cons_succ, List.getElem?_cons_zero]; exact rfl
    case hQa9 => exact fun _ _ _ h => h
    case hya9 =>
      refine Or.inl ⟨by rfl, ?_⟩
      intro wS hSw
      go_simp
      try with_reducible rfl
    try simp only [Act.put, List.setIfInBounds_toArray, List.set_cons_zero, List.set_cons_succ]
    refine wpAnyH_take (i := 10) (oi := ?oia10) (v := ?va10) ?hia10 (by kernel_rfl) (by kernel_rfl) (by kernel_rfl) ?hQa10 ?hya10 HS ?resta10
    case hia10 => simp only [List.getElem?_toArray, List.getElem?_cons_succ, List.getElem?_cons_zero]; exact rfl
    case hQa10 => exact fun _ _ _ h => h
    case hya10 =>
      refine Or.inl ⟨by rfl, ?_⟩
      intro wS hSw
      go_simp
      try with_reducible rfl
    try simp only [Act.put, List.setIfInBounds_toArray, List.set_cons_zero, List.set_cons_succ]
    refine wpAnyH_take (i := 11) (oi := ?oia11) (v := ?va11) ?hia11 (by kernel_rfl) (by kernel_rfl) (by kernel_rfl) ?hQa11 ?hya11 HS ?resta11
    case hia11 => simp only [List.getElem?_toArray, List.getElem?_cons_succ, List.getElem?_cons_zero]; exact rfl
    case hQa11 => exact fun _ _ _ h => h
    case hya11 =>
      refine Or.inl ⟨by rfl, ?_⟩
      intro wS hSw
      go_simp
      try with_reducible rfl
    try simp only [Act.put, List.setIfInBounds_toArray, List.set_cons_zero, List.set_cons_succ]
    refine wpAnyH_take (i := 12) (oi := ?oia12) (v := ?va12) ?hia12 (by kernel_rfl) (by kernel_rfl) (by kernel_rfl) ?hQa12 ?hya12 HS ?resta12
    case hia12 => simp only [List.getElem?_toArray, List.getElem?_cons_succ, List.getElem?_cons_zero]; exact rfl
    case hQa12 => exact fun _ _ _ h => h
    case hya12 =>
      refine Or.inl ⟨by rfl, ?_⟩
      intro wS hSw
      go_simp
      try with_reducible rfl
    try simp only [Act.put, List.setIfInBounds_toArray, List.set_cons_zero, List.set_cons_succ]
    refine wpAnyH_take (i := 13) (oi := ?oia13) (v := ?va13) ?hia13 (by kernel_rfl) (by kernel_rfl) (by kernel_rfl) ?hQa13 ?hya13 HS ?resta13
    case hia13 => simp only [List.getElem?_toArray, List.getElem?_cons_succ, List.getElem?_cons_zero]; exact rfl
    case hQa13 => exact fun _ _ _ h => h
    case hya13 =>
      refine Or.inl ⟨by rfl, ?_⟩
      intro wS hSw
      go_simp
      try with_reducible rfl
    try simp only [Act.put, List.setIfInBounds_toArray, List.set_cons_zero, List.set_cons_succ]
    refine wpAnyH_take (i := 14) (oi := ?oia14) (v := ?va14) ?hia14 (by kernel_rfl) (by kernel_rfl) (by kernel_rfl) ?hQa14 ?hya14 HS ?resta14
    case hia14 => simp only [List.getElem?_toArray, List.getElem?_cons_succ, List.getElem?_cons_zero]; exact rfl
    case hQa14 => exact fun _ _ _ h => h
    case hya14 =>
      refine Or.inl ⟨by rfl, ?_⟩
      intro wS hSw
      go_simp
      try with_reducible rfl
    try simp only [Act.put, List.setIfInBounds_toArray, List.set_cons_zero, List.set_cons_succ]
    refine wpAnyH_take (i := 15) (oi := ?oia15) (v := ?va15) ?hia15 (by kernel_rfl) (by kernel_rfl) (by kernel_rfl) ?hQa15 ?hya15 HS ?resta15
    case hia15 => simp only [List.getElem?_toArray, List.getElem?_cons_succ, List.getElem?_cons_zero]; exact rfl
    case hQa15 => exact fun _ _ _ h => h
    case hya15 =>
      refine Or.inl ⟨by rfl, ?_⟩
      intro wS hSw
      go_simp
      try with_reducible rfl
    try simp only [Act.put, List.setIfInBounds_toArray, List.set_cons_zero, List.set_cons_succ]
    refine wpAnyH_ready (rs := [16]) (by kernel_rfl) (by simp) ?_
    refine AllReadyH.cons (o := ?oa16) ?hoa16 (fun K hK => ?stepa16) AllReadyH.nil
    case hoa16 => simp only [List.getElem?_toArray, List.getElem?_cons_succ, List.getElem?_cons_zero]; exact rfl
    go_simp
    refine HRD.out.mono ?_
    rintro e w6 ⟨rfl, hb5⟩
    have HBz := hid (HBD.out.trans (hb5.mono HBD.out.size))
    have HKz := hid (HKD.out.keep (hb5.block gz HKD.out.lt))
    clear hb5
    refine hK.out _ _ (ce_cells HKz.out) (fun HS => ?_)
    clear hK K
    try simp only [Act.put, List.setIfInBounds_toArray, List.set_cons_zero, List.set_cons_succ]
    refine wpAnyH_take (i := 17) (oi := ?oia17) (v := ?va17) ?hia17 (by kernel_rfl) (by kernel_rfl) (by kernel_rfl) ?hQa17 ?hya17 HS ?resta17
    case hia17 => simp only [List.getElem?_toArray, List.getElem?_cons_succ, List.getElem?_cons_zero]; exact rfl
    case hQa17 => exact fun _ _ _ h => h
    case hya17 =>
      refine Or.inl ⟨by rfl, ?_⟩
      intro wS hSw
      go_simp
      try with_reducible rfl
    try simp only [Act.put, List.setIfInBounds_toArray, List.set_cons_zero, List.set_cons_succ]
    refine wpAnyH_take (i := 18) (oi := ?oia18) (v := ?va18) ?hia18 (by kernel_rfl) (by kernel_rfl) (by kernel_rfl) ?hQa18 ?hya18 HS ?resta18
    case hia18 => simp only [List.getElem?_toArray, List.getElem?_cons_succ, List.getElem?_cons_zero]; exact rfl
    case hQa18 => exact fun _ _ _ h => h
    case hya18 =>
      refine Or.inl ⟨by rfl, ?_⟩
      intro wS hSw
      go_simp
      try with_reducible rfl
    try simp only [Act.put, List.setIfInBounds_toArray, List.set_cons_zero, List.set_cons_succ]
    refine wpAnyH_take (i := 19) (oi := ?oia19) (v := ?va19) ?hia19 (by kernel_rfl) (by kernel_rfl) (by kernel_rfl) ?hQa19 ?hya19 HS ?resta19
    case hia19 => simp only [List.getElem?_toArray, List.getElem?_cons_succ, List.getElem?_cons_zero]; exact rfl
    case hQa19 => exact fun _ _ _ h => h
    case hya19 =>
      refine Or.inl ⟨by rfl, ?_⟩
      intro wS hSw
      go_simp
      try with_reducible rfl
    try simp only [Act.put, List.setIfInBounds_toArray, List.set_cons_zero, List.set_cons_succ]
    refine wpAnyH_take (i := 20) (oi := ?oia20) (v := ?va20) ?hia20 (by kernel_rfl) (by kernel_rfl) (by kernel_rfl) ?hQa20 ?hya20 HS ?resta20
    case hia20 => simp only [List.getElem?_toArray, List.getElem?_cons_succ, List.getElem?_cons_zero]; exact rfl
    case hQa20 => exact fun _ _ _ h => h
    case hya20 =>
      refine Or.inl ⟨by rfl, ?_⟩
      intro wS hSw
      go_simp
      try with_reducible rfl
    try simp only [Act.put, List.setIfInBounds_toArray, List.set_cons_zero, List.set_cons_succ]
    refine wpAnyH_done (by kernel_rfl) ?_ _
    go_wp2
    go_ret2
    exact ⟨by rw [HE.out, HO.out]; rfl, HBz.out⟩
end
end Go.Proofs.Ytocmgdhgimpfhaa
