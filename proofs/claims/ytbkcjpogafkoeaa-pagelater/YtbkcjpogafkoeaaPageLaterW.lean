/- The walk of PageLater: it answers true, whatever the input. -/
import Derived.Test.YtbkcjpogafkoeaaPgFirst
import Derived.Test.YtbkcjpogafkoeaaFrame
import Derived.Deep.LoopGhost
namespace Go.Proofs.Ytbkcjpogafkoeaa
open Go.RowKit

theorem Blk.pre' {w w' : World} {g : Nat} {t : TypeId} {cs : Array Value} (h : Blk w g t cs) (hb : Below w.heap.size w w') : Blk w' g t cs := h.keep (hb.block g h.lt)
/-- A page of this key and id, under a version. -/
def Pg.at_ (p : Pg) (n : Int) : Pg := ⟨p.k, p.id, n⟩
/-- What stands on block 1 is the page under this version, the last that was sealed. -/
structure Later (d : St) (v : Va) (p : Pg) (la : Int) (m : Nat) : Prop where
  sd : ∃ B, Sd d 2 B (m + 1) ∧ B 1 = pad (le8 (m + 1))
  G : v.G = []
  len : v.L.length = m + 1
  at_ : ∃ l, v.L[m]? = some ⟨p.k, besd (p.at_ la) (1 : Nat), l⟩
theorem Later.new {p : Pg} (hr : p.k.right) {l : List UInt8} (hl : l.length ≤ 1000) : pwE (St.new 2) Va.new (1 : Nat) p l.length = 0 ∧ Later (pwD (St.new 2) Va.new (1 : Nat) p l.length) (pwV (St.new 2) Va.new (1 : Nat) p l) p p.ver 0 := by
  obtain ⟨p1, p2⟩ := (Sd.new 2).write (v := Va.new) (p := p) (j := 1) (by omega) (m := l.length) hr (by omega) rfl
  have p3 := pwV_ok (v := Va.new) (p := p) (j := 1) (Sd.new 2) (by omega) (l := l) hr (by omega) rfl
  refine ⟨p1, ⟨_, p2, upd_same _ _ _⟩, by rw [p3], by rw [p3]; rfl, l, by rw [p3]; rfl⟩
theorem Later.next {d : St} {v : Va} {p : Pg} {la : Int} {m : Nat} (h : Later d v p la m) (hm : m ≤ 100) (hp : p.wf) (hr : p.k.right) (hla : i64ok la) {n : Int} (hn : i64ok n) (hne : n ≠ la) {l : List UInt8} (hl : l.length ≤ 1000) :
    pwE d v (1 : Nat) (p.at_ n) l.length = 0 ∧ Later (pwD d v (1 : Nat) (p.at_ n) l.length) (pwV d v (1 : Nat) (p.at_ n) l) p n (m + 1) ∧
    prE (pwD d v (1 : Nat) (p.at_ n) l.length) (pwV d v (1 : Nat) (p.at_ n) l) (1 : Nat) (p.at_ n) = 0 ∧ prB (pwD d v (1 : Nat) (p.at_ n) l.length) (pwV d v (1 : Nat) (p.at_ n) l) (1 : Nat) (p.at_ n) = l ∧
    prE (pwD d v (1 : Nat) (p.at_ n) l.length) (pwV d v (1 : Nat) (p.at_ n) l) (1 : Nat) (p.at_ la) = 51 := by
  obtain ⟨B, hS, hB⟩ := h.sd
  have hq : (p.at_ n).wf := ⟨hp.1, hp.2.1, hn⟩
  have hw : (p.at_ la).wf := ⟨hp.1, hp.2.1, hla⟩
  obtain ⟨p1, p2⟩ := hS.write (v := v) (p := p.at_ n) (j := 1) (by omega) (m := l.length) hr (by omega) h.G
  have p3 := pwV_ok (v := v) (p := p.at_ n) (j := 1) hS (by omega) (l := l) hr (by omega) h.G
  rw [h.len] at p2
  have hat : (v.L ++ [(⟨(p.at_ n).k, besd (p.at_ n) (1 : Nat), l⟩ : En)])[m + 1]? = some ⟨(p.at_ n).k, besd (p.at_ n) (1 : Nat), l⟩ := by
    rw [← h.len, List.getElem?_append_right (Nat.le_refl _), Nat.sub_self]; rfl
  obtain ⟨r1, r2⟩ := p2.hit (v := ⟨v.L ++ [⟨(p.at_ n).k, besd (p.at_ n) (1 : Nat), l⟩], []⟩) (q := p.at_ n) (p := p.at_ n) (j := 1) (j0 := 1) (hd := m + 1) (l := l) (by omega) (by omega) (upd_same _ _ _) (by omega) rfl hat hq hq (by omega)
  obtain ⟨r3, -⟩ := p2.hit (v := ⟨v.L ++ [⟨(p.at_ n).k, besd (p.at_ n) (1 : Nat), l⟩], []⟩) (q := p.at_ la) (p := p.at_ n) (j := 1) (j0 := 1) (hd := m + 1) (l := l) (by omega) (by omega) (upd_same _ _ _) (by omega) rfl hat hq hw (by omega)
  rw [if_pos ⟨rfl, rfl⟩] at r1 r2
  rw [if_neg (by rintro ⟨e, -⟩; exact hne (by unfold Pg.at_ at e; injection e))] at r3
  rw [p3]
  exact ⟨p1, ⟨⟨_, p2, upd_same _ _ _⟩, rfl, by simp [h.len], l, hat⟩, r1, r2, r3⟩
theorem Later.W {d : St} {v : Va} {p : Pg} {la : Int} {m : Nat} (h : Later d v p la m) : d.W.length ≤ m + 1 := by
  obtain ⟨B, hS, _⟩ := h.sd
  exact hS.W

set_option maxRecDepth 100000 in
set_option maxHeartbeats 8000000 in
theorem walkPageLater (p : Pg) (a1 : Option Addr) (n1 k1 : Nat) (z1 : List Int) (w : World) (hp : p.wf) (w1 : IsRow .i64 w a1 n1 k1 z1) :
    Calls Try.prog 7 #[(.agg #[.int .i64 (p).k.t, .int .i64 (p).k.c, .int .i64 (p).k.e, .int .i64 (p).id, .int .i64 (p).ver]), .slice a1 n1 k1] w fun e w' => e = .returned (.bool true) ∧ Below w.heap.size w w' := by
  obtain ⟨hN, hnc, hcm, hNwf, hNl⟩ := argI w1
  generalize z1.take n1 = ns at *
  unfold maxLen at hcm
  have hb0 : Below w.heap.size w (w.alloc (.cells #[.int .i64 p.k.t, .int .i64 p.k.c, .int .i64 p.k.e, .int .i64 p.id, .int .i64 p.ver] 41)) := (Below.refl _ _).alloc (Nat.le_refl _) _
  have b1 : PgB (w.alloc (.cells #[.int .i64 p.k.t, .int .i64 p.k.c, .int .i64 p.k.e, .int .i64 p.id, .int .i64 p.ver] 41)) w.heap.size p := Blk.new w 41 _
  have hf := pfirst_c (w.alloc (.cells #[.int .i64 p.k.t, .int .i64 p.k.c, .int .i64 p.k.e, .int .i64 p.id, .int .i64 p.ver] 41))
  obtain ⟨m1, m2, hm1, hm2, hM⟩ := min3 p.k
  have HP := hid hp
  have HM := hid hM
  have HN := hid hN
  have HNL := hid hNl
  have HNW := hid hNwf
  have HNM : Hid (n1 ≤ 9223372036854775807) := hid (by omega)
  have B1 := hid b1
  have HB0 := hid hb0
  clear hp hM hN hNl hNwf b1 hb0 w1 hnc hcm
  go_enter Try.func7, Try.ntmps7
  go_wp2_with fail
  refine hf.mono ?_
  rintro e v1 ⟨rfl, hb1⟩
  have HB1 := hid (HB0.out.trans (hb1.mono HB0.out.size))
  have P1 : Hid (PgB v1 w.heap.size p) := hid (Blk.pre' B1.out hb1)
  clear hf hb1 HB0 B1
  generalize hpb : w.heap.size = pb at *
  have HPB := hid hpb
  clear hpb
  obtain ⟨c0, c1, c2, c3, c4⟩ := pgB_cells P1.out
  by_cases hr : ¬ p.k.right
  · have e1 : decide (m2 < 0) = true := by have := HM.out.2 hr; simpa using this
    clear hr
    go_wp2
    go_ret
    exact ⟨rfl, HPB.out ▸ HB1.out⟩
  have hr := Classical.byContradiction hr
  have e1 : decide (m2 < 0) = false := by
    have : ¬ m2 < 0 := fun e => HM.out.1 e hr
    simpa using this
  have HR := hid hr
  clear hr
  go_wp2_with fail
  clear c0 c1 c2 c3 c4 e1 hm1 hm2 HM
  refine (dnew_onX w v1 (HPB.out ▸ HB1.out) 2 (by omega) (by omega) (fun x => x = pb) (fun x hx => by subst hx; exact ⟨P1.out.lt, by rw [HPB.out]; exact Nat.le_refl _⟩)).mono ?_
  rintro e v2 ⟨gd, rfl, hv2, hk2⟩
  have HV2 := hid hv2
  have P2 : Hid (PgB v2 pb p) := hid (Blk.keep P1.out (hk2.2 _ rfl))
  clear hv2 hk2 HB1 P1
  go_wp2_with fail
  refine (vnew_on HV2.out).mono ?_
  rintro e v3 ⟨gv, rfl, hv3, hk3⟩
  have HV3 := hid hv3
  have P3 : Hid (PgB v3 pb p) := hid (Blk.keep P2.out (hk3.2 _ rfl))
  clear hv3 hk3 HV2 P2
  obtain ⟨c0, c1, c2, c3, c4⟩ := pgB_cells P3.out
  obtain ⟨q1, q2⟩ := Later.new (p := p) HR.out (l := [102, 105, 114, 115, 116]) (by decide)
  have kc := conv1 v3 #[.int .u8 102, .int .u8 105, .int .u8 114, .int .u8 115, .int .u8 116] 5 5
  have hwr := pwrite_on (C := fun P => P) (w := w) (gd := gd) (gv := gv) Foc.self (HV3.out.go (PV.ok _ _ _ _) ((Below.refl _ _).alloc (Nat.le_refl _) (.cells #[.int .u8 102, .int .u8 105, .int .u8 114, .int .u8 115, .int .u8 116] 5 (5, 6)))) p HP.out ((1 : Nat) : Int) ⟨by omega, by omega⟩ _ 5 5 [102, 105, 114, 115, 116] (Bts.lit1 v3 5 [102, 105, 114, 115, 116] _) (Nat.zero_le _) (Nat.zero_le _)
  rw [q1] at hwr
  generalize pwD (St.new 2) Va.new ((1 : Nat) : Int) p ([102, 105, 114, 115, 116] : List UInt8).length = d1 at *
  generalize pwV (St.new 2) Va.new ((1 : Nat) : Int) p [102, 105, 114, 115, 116] = u1 at *
  have HWR := hid hwr
  have HLA := hid q2
  have P4 : Hid (PgB (v3.alloc (.cells #[.int .u8 102, .int .u8 105, .int .u8 114, .int .u8 115, .int .u8 116] 5 (5, 6))) pb p) := hid (Blk.pre' P3.out ((Below.refl _ _).alloc (Nat.le_refl _) _))
  clear hwr q1 q2
  go_wp2_with fail
  refine HWR.out.mono ?_
  rintro e v5 ⟨rfl, hv5, hk5⟩
  have HV5 := hid hv5
  have P5 : Hid (PgB v5 pb p) := hid (Blk.keep P4.out (hk5.2 _ rfl))
  clear hv5 hk5 HV3 P3 P4 HWR kc c0 c1 c2 c3 c4
  go_wp2_with fail
  go_loopg [8, 46] n1 (fun kk lv iv wr => ∃ (j : Nat) (la : Int) (m : Nat) (d : St) (v : Va), lv = .int .i64 la ∧ iv = .int .i64 (j : Int) ∧ Hid (kk = n1 - j) ∧ Hid (j ≤ n1) ∧ Hid (m ≤ j ∧ m ≤ 20) ∧ Hid (i64ok la) ∧ Hid (Later d v p la m) ∧ Hid (On w (PV gd d gv v) wr (fun x => x = pb)) ∧ Hid (PgB wr pb p))
  case atStart => exact ⟨0, p.ver, 0, d1, u1, rfl, rfl, hid (by omega), hid (Nat.zero_le _), hid ⟨Nat.le_refl _, by omega⟩, hid HP.out.2.2, HLA, HV5, P5⟩
  case round =>
  obtain ⟨j, la, m, d, v, rfl, rfl, hgk, hj, hm, hla, hL, hV, hB⟩ := hrel
  clear HLA HV5 P5
  rcases Nat.lt_or_ge j n1 with hlt | hge
  · have HLT := hid hlt
    have hkl : j < ns.length := by rw [HNL.out]; exact hlt
    have hx := HNW.out _ (List.getElem_mem hkl)
    obtain ⟨g, off, rfl, _, hgl, hcell⟩ := (HN.out.below hV.out.below (by rw [HPB.out]; exact Nat.le_refl _)).at_ hlt
    rw [List.getElem_map] at hcell
    generalize ns[j] = x at *
    have HX := hid (wf_i64 hx)
    have j1 : (0 : Int) ≤ (j : Int) := by omega
    have j2 : (j : Int) < (n1 : Int) := by omega
    have j3 : decide ((j : Int) < (n1 : Int)) = true := by simpa using hlt
    have j4 : decide (j < n1) = true := by simpa using hlt
    have wj : wrap64 ((j : Int) + 1) = ((j + 1 : Nat) : Int) := by have := HNM.out; unfold wrap64; omega
    clear hx hgl hkl
    by_cases h20 : 20 ≤ j
    · have e1 : decide ((20 : Int) ≤ (j : Int)) = true := by simp; omega
      have e2 : decide (20 ≤ j) = true := by simpa using h20
      clear h20 hlt
      as_aux_lemma =>
      go_wp2_with fail
      go_roundg (n1 - (j + 1))
      case measure => have := hgk.out; have := HLT.out; omega
      case rel => exact ⟨j + 1, la, m, d, v, rfl, congrArg (Value.int .i64) (by first | exact wj | omega | rfl), hid rfl, hid (by have := HLT.out; omega), hid ⟨by have := hm.out.1; omega, hm.out.2⟩, hla, hL, hV, hB⟩
    have e1 : decide ((20 : Int) ≤ (j : Int)) = false := by simp; omega
    have e2 : decide (20 ≤ j) = false := by simpa using h20
    have H20 : Hid (j < 20) := hid (by omega)
    clear h20 hlt
    by_cases hxl : x = la
    · subst hxl
      as_aux_lemma =>
      go_wp2_with fail
      go_roundg (n1 - (j + 1))
      case measure => have := hgk.out; have := HLT.out; omega
      case rel => exact ⟨j + 1, x, m, d, v, rfl, congrArg (Value.int .i64) (by first | exact wj | omega | rfl), hid rfl, hid (by have := HLT.out; omega), hid ⟨by have := hm.out.1; omega, hm.out.2⟩, hla, hL, hV, hB⟩
    have s1 : (x == la) = false := by simpa using hxl
    have s2 : decide (x = la) = false := by simpa using hxl
    have s3 : ¬ x = la := hxl
    have HS1 : Hid ((wr.alloc (.cells #[.int .i64 p.k.t, .int .i64 p.k.c, .int .i64 p.k.e, .int .i64 p.id, .int .i64 la] 41)).heap.size = wr.heap.size + 1) := hid (by simp)
    have HS2 : Hid (((wr.alloc (.cells #[.int .i64 p.k.t, .int .i64 p.k.c, .int .i64 p.k.e, .int .i64 p.id, .int .i64 la] 41)).alloc (.cells #[.int .i64 p.k.t, .int .i64 p.k.c, .int .i64 p.k.e, .int .i64 p.id, .int .i64 x] 41)).heap.size = wr.heap.size + 1 + 1) := hid (by simp)
    have hbw : Below wr.heap.size wr ((wr.alloc (.cells #[.int .i64 p.k.t, .int .i64 p.k.c, .int .i64 p.k.e, .int .i64 p.id, .int .i64 la] 41)).alloc (.cells #[.int .i64 p.k.t, .int .i64 p.k.c, .int .i64 p.k.e, .int .i64 p.id, .int .i64 x] 41)) := ((Below.refl _ _).alloc (Nat.le_refl _) _).alloc (by simp) _
    have hb3 : Below wr.heap.size wr (((wr.alloc (.cells #[.int .i64 p.k.t, .int .i64 p.k.c, .int .i64 p.k.e, .int .i64 p.id, .int .i64 la] 41)).alloc (.cells #[.int .i64 p.k.t, .int .i64 p.k.c, .int .i64 p.k.e, .int .i64 p.id, .int .i64 x] 41)).alloc (.cells #[.int .u8 (j : Int)] 5)) := hbw.alloc (by have := HS2.out; omega) _
    have ba : PgB ((wr.alloc (.cells #[.int .i64 p.k.t, .int .i64 p.k.c, .int .i64 p.k.e, .int .i64 p.id, .int .i64 la] 41)).alloc (.cells #[.int .i64 p.k.t, .int .i64 p.k.c, .int .i64 p.k.e, .int .i64 p.id, .int .i64 x] 41)) wr.heap.size (p.at_ la) := (Blk.new wr 41 #[.int .i64 p.k.t, .int .i64 p.k.c, .int .i64 p.k.e, .int .i64 p.id, .int .i64 la]).pre' ((Below.refl _ _).alloc (Nat.le_refl _) _)
    have bq : PgB ((wr.alloc (.cells #[.int .i64 p.k.t, .int .i64 p.k.c, .int .i64 p.k.e, .int .i64 p.id, .int .i64 la] 41)).alloc (.cells #[.int .i64 p.k.t, .int .i64 p.k.c, .int .i64 p.k.e, .int .i64 p.id, .int .i64 x] 41)) (wr.heap.size + 1) (p.at_ x) := by
      have := Blk.new (wr.alloc (.cells #[.int .i64 p.k.t, .int .i64 p.k.c, .int .i64 p.k.e, .int .i64 p.id, .int .i64 la] 41)) 41 #[.int .i64 p.k.t, .int .i64 p.k.c, .int .i64 p.k.e, .int .i64 p.id, .int .i64 x]
      rw [HS1.out] at this
      exact this
    have hV3 : On w (PV gd d gv v) (((wr.alloc (.cells #[.int .i64 p.k.t, .int .i64 p.k.c, .int .i64 p.k.e, .int .i64 p.id, .int .i64 la] 41)).alloc (.cells #[.int .i64 p.k.t, .int .i64 p.k.c, .int .i64 p.k.e, .int .i64 p.id, .int .i64 x] 41)).alloc (.cells #[.int .u8 (j : Int)] 5)) (fun y => y = pb ∨ (y = wr.heap.size ∨ y = wr.heap.size + 1)) := (hV.out.add (PV.ok _ _ _ _) hbw (Y := fun y => y = wr.heap.size ∨ y = wr.heap.size + 1) (fun y hy => by have := HS2.out; rcases hy with rfl | rfl <;> omega)).go (PV.ok _ _ _ _) ((Below.refl _ _).alloc (Nat.le_refl _) _)
    have A3 : Hid (PgB (((wr.alloc (.cells #[.int .i64 p.k.t, .int .i64 p.k.c, .int .i64 p.k.e, .int .i64 p.id, .int .i64 la] 41)).alloc (.cells #[.int .i64 p.k.t, .int .i64 p.k.c, .int .i64 p.k.e, .int .i64 p.id, .int .i64 x] 41)).alloc (.cells #[.int .u8 (j : Int)] 5)) wr.heap.size (p.at_ la)) := hid (Blk.pre' ba ((Below.refl _ _).alloc (Nat.le_refl _) _))
    have Q3 : Hid (PgB (((wr.alloc (.cells #[.int .i64 p.k.t, .int .i64 p.k.c, .int .i64 p.k.e, .int .i64 p.id, .int .i64 la] 41)).alloc (.cells #[.int .i64 p.k.t, .int .i64 p.k.c, .int .i64 p.k.e, .int .i64 p.id, .int .i64 x] 41)).alloc (.cells #[.int .u8 (j : Int)] 5)) (wr.heap.size + 1) (p.at_ x)) := hid (Blk.pre' bq ((Below.refl _ _).alloc (Nat.le_refl _) _))
    have P3 : Hid (PgB (((wr.alloc (.cells #[.int .i64 p.k.t, .int .i64 p.k.c, .int .i64 p.k.e, .int .i64 p.id, .int .i64 la] 41)).alloc (.cells #[.int .i64 p.k.t, .int .i64 p.k.c, .int .i64 p.k.e, .int .i64 p.id, .int .i64 x] 41)).alloc (.cells #[.int .u8 (j : Int)] 5)) pb p) := hid (Blk.pre' hB.out hb3)
    have hby : bs [UInt8.ofNat j] = [.int .u8 (j : Int)] := bs_ofNat (by have := H20.out; omega)
    have hbt : Bts (((wr.alloc (.cells #[.int .i64 p.k.t, .int .i64 p.k.c, .int .i64 p.k.e, .int .i64 p.id, .int .i64 la] 41)).alloc (.cells #[.int .i64 p.k.t, .int .i64 p.k.c, .int .i64 p.k.e, .int .i64 p.id, .int .i64 x] 41)).alloc (.cells #[.int .u8 (j : Int)] 5)) 0 (((wr.alloc (.cells #[.int .i64 p.k.t, .int .i64 p.k.c, .int .i64 p.k.e, .int .i64 p.id, .int .i64 la] 41)).alloc (.cells #[.int .i64 p.k.t, .int .i64 p.k.c, .int .i64 p.k.e, .int .i64 p.id, .int .i64 x] 41)).alloc (.cells #[.int .u8 (j : Int)] 5)).heap.size (some ⟨wr.heap.size + 1 + 1, 0, none⟩) 1 [UInt8.ofNat j] := by
      have := Bts.lit1 ((wr.alloc (.cells #[.int .i64 p.k.t, .int .i64 p.k.c, .int .i64 p.k.e, .int .i64 p.id, .int .i64 la] 41)).alloc (.cells #[.int .i64 p.k.t, .int .i64 p.k.c, .int .i64 p.k.e, .int .i64 p.id, .int .i64 x] 41)) 5 [UInt8.ofNat j] (0, 0)
      rw [hby, HS2.out] at this
      exact this
    obtain ⟨q1, q2, q3, q4, q5⟩ := hL.out.next (by have := hm.out.2; omega) HP.out HR.out hla.out HX.out hxl (l := [UInt8.ofNat j]) (by simp)
    have hwr := pwrite_on (C := fun P => P) (w := w) (gd := gd) (gv := gv) Foc.self hV3 (p.at_ x) ⟨HP.out.1, HP.out.2.1, HX.out⟩ ((1 : Nat) : Int) ⟨by omega, by omega⟩ _ 1 1 [UInt8.ofNat j] hbt (by have := hL.out.W; have := hm.out.2; omega) (by have := hL.out.len; have := hm.out.2; omega)
    rw [q1] at hwr
    generalize pwD d v ((1 : Nat) : Int) (p.at_ x) ([UInt8.ofNat j] : List UInt8).length = d2 at *
    generalize pwV d v ((1 : Nat) : Int) (p.at_ x) [UInt8.ofNat j] = u2 at *
    have HWR := hid hwr
    have HLA := hid q2
    have Q3_ := hid q3
    have Q4_ := hid q4
    have Q5_ := hid q5
    have HPL : Hid ((p.at_ la).wf) := hid ⟨HP.out.1, HP.out.2.1, hla.out⟩
    have HPX : Hid ((p.at_ x).wf) := hid ⟨HP.out.1, HP.out.2.1, HX.out⟩
    have u8j : IntKind.u8.wrap (j : Int) = (j : Int) := wrap8 (by have := H20.out; omega)
    have u8k : (j : Int) % 256 = (j : Int) := by have := H20.out; omega
    obtain ⟨c0, c1, c2, c3, c4⟩ := pgB_cells hB.out
    obtain ⟨f0, f1, f2, f3, f4⟩ := pgB_cells (show PgB (wr.alloc (.cells #[.int .i64 p.k.t, .int .i64 p.k.c, .int .i64 p.k.e, .int .i64 p.id, .int .i64 la] 41)) pb p from Blk.pre' hB.out ((Below.refl _ _).alloc (Nat.le_refl _) _))
    have HPBL : Hid (pb < wr.heap.size) := hid hB.out.lt
    clear hwr q1 q2 q3 q4 q5 hbw hb3 ba bq hV3 hbt hby hxl hL hV
    as_aux_lemma =>
    go_wp2_with fail
    refine HWR.out.mono ?_
    rintro e v6 ⟨rfl, hv6, hk6⟩
    have HV6 := hid hv6
    have P6 : Hid (PgB v6 pb p) := hid (Blk.keep P3.out (hk6.2 _ (.inl rfl)))
    have A6 : Hid (PgB v6 wr.heap.size (p.at_ la)) := hid (Blk.keep A3.out (hk6.2 _ (.inr (.inl rfl))))
    have Q6 : Hid (PgB v6 (wr.heap.size + 1) (p.at_ x)) := hid (Blk.keep Q3.out (hk6.2 _ (.inr (.inr rfl))))
    clear hv6 hk6 P3 A3 Q3 HWR c0 c1 c2 c3 c4 f0 f1 f2 f3 f4 HS1 HS2 hB
    generalize wr.heap.size = aw at *
    obtain ⟨c0, c1, c2, c3, c4⟩ := pgB_cells Q6.out
    go_wp2_with fail
    refine (pread_on (C := fun P => P) Foc.self HV6.out (p.at_ x) HPX.out ((1 : Nat) : Int) ⟨by omega, by omega⟩).mono ?_
    rintro e v7 ⟨A7, n7, k7, rfl, ho7, -, hb7⟩
    rw [Q3_.out]
    rw [Q4_.out] at ho7
    have HV7 := hid (HV6.out.go (PV.ok _ _ _ _) hb7)
    have P7 : Hid (PgB v7 pb p) := hid (Blk.pre' P6.out hb7)
    have A7_ : Hid (PgB v7 aw (p.at_ la)) := hid (Blk.pre' A6.out hb7)
    have O7 := hid ho7
    clear hb7 ho7 HV6 P6 Q6 A6 c0 c1 c2 c3 c4
    obtain ⟨c0, c1, c2, c3, c4⟩ := pgB_cells A7_.out
    go_wp2_with fail
    refine (pread_on (C := fun P => P) Foc.self HV7.out (p.at_ la) HPL.out ((1 : Nat) : Int) ⟨by omega, by omega⟩).mono ?_
    rintro e v8 ⟨A8, n8, k8, rfl, -, -, hb8⟩
    rw [Q5_.out]
    have HV8 := hid (HV7.out.go (PV.ok _ _ _ _) hb8)
    have P8 : Hid (PgB v8 pb p) := hid (Blk.pre' P7.out hb8)
    have hst := own_str (own_keep O7.out fun y hy => hb8.block y (own_lt O7.out y hy))
    clear hb8 HV7 P7 A7_ O7 c0 c1 c2 c3 c4
    have hcb := conv_byte v8 (j := j) (by have := H20.out; omega)
    have HV9 : Hid (On w (PV gd d2 gv u2) (v8.alloc (.cells #[.int .u8 (j : Int)] 5)) (fun y => y = pb)) := hid ((HV8.out.go (PV.ok _ _ _ _) ((Below.refl _ _).alloc (Nat.le_refl _) _)).less (fun y hy => .inl hy))
    have P9 : Hid (PgB (v8.alloc (.cells #[.int .u8 (j : Int)] 5)) pb p) := hid (Blk.pre' P8.out ((Below.refl _ _).alloc (Nat.le_refl _) _))
    clear HV8 P8
    go_wp2_with fail
    go_roundg (n1 - (j + 1))
    case measure => have := hgk.out; have := HLT.out; omega
    case rel => exact ⟨j + 1, x, m + 1, d2, u2, rfl, congrArg (Value.int .i64) (by first | exact wj | omega | rfl), hid rfl, hid (by have := HLT.out; omega), hid ⟨by have := hm.out.1; omega, by have := hm.out.1; have := H20.out; omega⟩, HX, HLA, HV9, P9⟩
  · have j3 : decide ((j : Int) < (n1 : Int)) = false := by simp; omega
    have j4 : decide (j < n1) = false := by simp; omega
    clear hge
    as_aux_lemma =>
    go_wp2
    go_ret
    exact ⟨rfl, hV.out.below⟩
end Go.Proofs.Ytbkcjpogafkoeaa
