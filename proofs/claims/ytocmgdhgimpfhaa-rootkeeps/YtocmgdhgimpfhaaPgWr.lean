/- What page.Write answers and leaves, whatever the world. -/
import Derived.Test.YtocmgdhgimpfhaaPgDef
import Derived.Test.YtocmgdhgimpfhaaPgW1
import Derived.Test.YtocmgdhgimpfhaaPgHa
namespace Go.Proofs.Ytocmgdhgimpfhaa
open Go.RowKit

set_option maxRecDepth 100000 in
set_option maxHeartbeats 4000000 in
theorem pwrite_c (w : World) (F : Nat → Prop) (gd gv : Nat) (d : St) (v : Va) (h : ((DvO gd d).and (VtO gv v)) w F) (p : Pg) (hp : p.wf) (i : Int) (hi : i64ok i) (A : Option Addr) (n c : Nat) (l : List UInt8) (hr : Bts w 0 w.heap.size A n l) (hW : d.W.length ≤ 100000) (hL : v.L.length ≤ 1000000) :
    Calls Try.prog 31 #[.pointer (some ⟨gd, 0, none⟩), .pointer (some ⟨gv, 0, none⟩), .int .i64 i, (.agg #[.int .i64 (p).k.t, .int .i64 (p).k.c, .int .i64 (p).k.e, .int .i64 (p).id, .int .i64 (p).ver]), .slice A n c] w fun e w' => e = .returned (.int .i64 (pwE d v i p l.length)) ∧ ((DvO gd (pwD d v i p l.length)).and (VtO gv (pwV d v i p l))).Left w w' F := by
  have hOk : ((DvO gd d).and (VtO gv v)).Ok := (DvO.ok gd d).and (VtO.ok gv v)
  have hb1 : Below w.heap.size w (w.alloc (.cells #[.int .i64 p.k.t, .int .i64 p.k.c, .int .i64 p.k.e, .int .i64 p.id, .int .i64 p.ver] 89)) := (Below.refl _ _).alloc (Nat.le_refl _) _
  have hB : PgB (w.alloc (.cells #[.int .i64 p.k.t, .int .i64 p.k.c, .int .i64 p.k.e, .int .i64 p.id, .int .i64 p.ver] 89)) w.heap.size p := Blk.new w 89 #[.int .i64 p.k.t, .int .i64 p.k.c, .int .i64 p.k.e, .int .i64 p.id, .int .i64 p.ver]
  have hs1 : (w.alloc (.cells #[.int .i64 p.k.t, .int .i64 p.k.c, .int .i64 p.k.e, .int .i64 p.id, .int .i64 p.ver] 89)).heap.size = w.heap.size + 1 := by simp
  obtain ⟨FD, hFD, -⟩ := Foc.one (Q := VtO gv v) Foc.self (VtO.ok gv v) (DvO gd d) w F h
  have hBl := blocks_c (w.alloc (.cells #[.int .i64 p.k.t, .int .i64 p.k.c, .int .i64 p.k.e, .int .i64 p.id, .int .i64 p.ver] 89)) FD gd d (Dev.bel hFD hb1)
  have HOK := hid hOk
  have HB1 := hid hb1
  have HPB := hid hB
  have HS1 := hid hs1
  have HH := hid h
  have HP := hid hp
  have HI := hid hi
  have HR := hid hr
  have HW := hid hW
  have HL := hid hL
  have HLT := hid (fun j (hj : F j) => hOk.lt w F h j hj)
  clear h hb1 hB hs1 hp hi hr hW hL hOk hFD
  by_cases hbad : i < 0 ∨ (d.n : Int) ≤ i
  · have HE : Hid (pwE d v i p l.length = 2) := hid (if_pos hbad)
    have HD : Hid (pwD d v i p l.length = d) := hid (if_pos hbad)
    have HV : Hid (pwV d v i p l = v) := hid (if_pos hbad)
    rw [HE.out, HD.out, HV.out]
    by_cases h0 : i < 0
    · have e1 : decide (i < 0) = true := by simpa using h0
      clear hbad h0 hBl
      go_enter Try.func31, Try.ntmps31
      go_wp2
      go_ret
      exact ⟨rfl, .bel HOK.out HH.out HB1.out⟩
    · have e1 : decide (i < 0) = false := by simpa using h0
      have h2 : (d.n : Int) ≤ i := by omega
      have e2 : decide ((d.n : Int) ≤ i) = true := by simpa using h2
      generalize (d.n : Int) = N at *
      clear hbad h0 h2
      go_enter Try.func31, Try.ntmps31
      go_wp2_with fail
      refine hBl.mono ?_
      rintro e w2 ⟨rfl, rfl⟩
      clear hBl
      go_wp2
      go_ret
      exact ⟨rfl, .bel HOK.out HH.out HB1.out⟩
  · have h0 : ¬ i < 0 := fun e => hbad (.inl e)
    have h2 : ¬ (d.n : Int) ≤ i := fun e => hbad (.inr e)
    have e1 : decide (i < 0) = false := by simpa using h0
    have e2 : decide ((d.n : Int) ≤ i) = false := by simpa using h2
    have HV : Hid (pwV d v i p l = seS v p.k (besd p i) l) := hid (if_neg hbad)
    by_cases hse : seE v p.k l.length = 0
    · have HE : Hid (pwE d v i p l.length = wrE d i 8) := hid ((if_neg hbad).trans (if_neg (by simp [hse])))
      have HD : Hid (pwD d v i p l.length = wrS d i (le8 (seH v p.k l.length))) := hid ((if_neg hbad).trans (if_neg (by simp [hse])))
      have HSE := hid hse
      clear hbad h0 h2 hse
      generalize (d.n : Int) = N at *
      go_enter Try.func31, Try.ntmps31
      go_wp2_with fail
      refine hBl.mono ?_
      rintro e w2 ⟨rfl, rfl⟩
      clear hBl
      go_wp2_with fail
      clear e1 e2
      have HPBd := hid (pgB_drew HPB.out)
      have HB1d := hid HB1.out.drew
      have HHd := hid (HOK.out.keep w _ F HH.out HB1d.out.size (fun j hj => HB1d.out.block j (HLT.out j hj)))
      refine wp_region_held_drew (S := fun wx => wx.cell? ⟨w.heap.size, 0, none⟩ = some (.int .i64 p.k.t) ∧ wx.cell? ⟨w.heap.size, 1, none⟩ = some (.int .i64 p.k.c) ∧ wx.cell? ⟨w.heap.size, 2, none⟩ = some (.int .i64 p.k.e) ∧ wx.cell? ⟨w.heap.size, 3, none⟩ = some (.int .i64 p.id) ∧ wx.cell? ⟨w.heap.size, 4, none⟩ = some (.int .i64 p.ver)) (by kernel_rfl) (pgB_cells HPBd.out) (fun HS => ?_)
      have HSZ : Hid (w.heap.size < (w.alloc (.cells #[.int .i64 p.k.t, .int .i64 p.k.c, .int .i64 p.k.e, .int .i64 p.id, .int .i64 p.ver] 89)).drew.heap.size) := hid HPBd.out.lt
      generalize (w.alloc (.cells #[.int .i64 p.k.t, .int .i64 p.k.c, .int .i64 p.k.e, .int .i64 p.id, .int .i64 p.ver] 89)).drew = w4 at *
      refine wpAnyH_take (i := 0) (oi := ?oig0) (v := ?vg0) ?hig0 (by kernel_rfl) (by kernel_rfl) (by kernel_rfl) ?hQg0 ?hyg0 HS ?restg0
      case hig0 => simp only [List.getElem?_toArray, List.getElem?_cons_zero]; exact rfl
      case hQg0 => exact fun _ _ _ h => h
      case hyg0 =>
        refine Or.inl ⟨by rfl, ?_⟩
        intro wS hSw
        go_simp
        try with_reducible rfl
      try simp only [Act.put, List.setIfInBounds_toArray, List.set_cons_zero, List.set_cons_succ]
      refine wpAnyH_take (i := 1) (oi := ?oig1) (v := ?vg1) ?hig1 (by kernel_rfl) (by kernel_rfl) (by kernel_rfl) ?hQg1 ?hyg1 HS ?restg1
      case hig1 => simp only [List.getElem?_toArray, List.getElem?_cons_succ, List.getElem?_cons_zero]; exact rfl
      case hQg1 => exact fun _ _ _ h => h
      case hyg1 =>
        refine Or.inl ⟨by rfl, ?_⟩
        intro wS hSw
        go_simp
        try with_reducible rfl
      try simp only [Act.put, List.setIfInBounds_toArray, List.set_cons_zero, List.set_cons_succ]
      refine wpAnyH_take (i := 2) (oi := ?oig2) (v := ?vg2) ?hig2 (by kernel_rfl) (by kernel_rfl) (by kernel_rfl) ?hQg2 ?hyg2 HS ?restg2
      case hig2 => simp only [List.getElem?_toArray, List.getElem?_cons_succ, List.getElem?_cons_zero]; exact rfl
      case hQg2 => exact fun _ _ _ h => h
      case hyg2 =>
        refine Or.inl ⟨by rfl, ?_⟩
        intro wS hSw
        go_simp
        try with_reducible rfl
      try simp only [Act.put, List.setIfInBounds_toArray, List.set_cons_zero, List.set_cons_succ]
      refine wpAnyH_take (i := 3) (oi := ?oig3) (v := ?vg3) ?hig3 (by kernel_rfl) (by kernel_rfl) (by kernel_rfl) ?hQg3 ?hyg3 HS ?restg3
      case hig3 => simp only [List.getElem?_toArray, List.getElem?_cons_succ, List.getElem?_cons_zero]; exact rfl
      case hQg3 => exact fun _ _ _ h => h
      case hyg3 =>
        refine Or.inl ⟨by rfl, ?_⟩
        intro wS hSw
        go_simp
        try with_reducible rfl
      try simp only [Act.put, List.setIfInBounds_toArray, List.set_cons_zero, List.set_cons_succ]
      refine wpAnyH_take (i := 4) (oi := ?oig4) (v := ?vg4) ?hig4 (by kernel_rfl) (by kernel_rfl) (by kernel_rfl) ?hQg4 ?hyg4 HS ?restg4
      case hig4 => simp only [List.getElem?_toArray, List.getElem?_cons_succ, List.getElem?_cons_zero]; exact rfl
      case hQg4 => exact fun _ _ _ h => h
      case hyg4 =>
        refine Or.inl ⟨by rfl, ?_⟩
        intro wS hSw
        go_simp
        try with_reducible rfl
      try simp only [Act.put, List.setIfInBounds_toArray, List.set_cons_zero, List.set_cons_succ]
      refine wpAnyH_take (i := 6) (oi := ?oig6) (v := ?vg6) ?hig6 (by kernel_rfl) (by kernel_rfl) (by kernel_rfl) ?hQg6 ?hyg6 HS ?restg6
      case hig6 => simp only [List.getElem?_toArray, List.getElem?_cons_succ, List.getElem?_cons_zero]; exact rfl
      case hQg6 => exact fun _ _ _ h => h
      case hyg6 =>
        refine Or.inl ⟨by rfl, ?_⟩
        intro wS hSw
        go_simp
        try with_reducible rfl
      try simp only [Act.put, List.setIfInBounds_toArray, List.set_cons_zero, List.set_cons_succ]
      refine wpAnyH_ready (rs := [5]) (by kernel_rfl) (by simp) ?_
      refine AllReadyH.cons (o := ?og5) ?hog5 (fun K hK => ?stepg5) AllReadyH.nil
      case hog5 => simp only [List.getElem?_toArray, List.getElem?_cons_succ, List.getElem?_cons_zero]; exact rfl
      go_simp
      refine (beside_c p HP.out i HI.out w4).mono ?_
      rintro e wa ⟨rfl, hba⟩
      have HBA := hid (HB1d.out.trans (hba.mono HB1d.out.size))
      have HPBa := hid (HPBd.out.below hba HPBd.out.lt)
      have HHa := hid (HOK.out.keep w wa F HH.out HBA.out.size (fun j hj => HBA.out.block j (HLT.out j hj)))
      clear hba HHd HPBd
      refine hK.out _ _ (pgB_cells HPBa.out) (fun HS => ?_)
      clear hK K
      try simp only [Act.put, List.setIfInBounds_toArray, List.set_cons_zero, List.set_cons_succ]
      obtain ⟨G, hG, hGs, hGf⟩ := Foc.two (Q := DvO gd d) Foc.self (DvO.ok gd d) (VtO gv v) wa F HHa.out
      have hsl := seal_any wa G gv v hG p.k HP.out.1 (besd p i) A n c l ((HR.out.below HBA.out (Nat.le_refl _)).wide (Nat.le_refl _) HBA.out.size) HL.out
      rw [HSE.out] at hsl
      have HGB : Hid (¬ G w.heap.size) := hid (fun e => Nat.lt_irrefl _ (HLT.out _ (hGs _ e)))
      have HGF := hid hGf
      clear hG hGs hGf
      refine wpAnyH_ready (rs := [7]) (by kernel_rfl) (by simp) ?_
      refine AllReadyH.cons (o := ?og7) ?hog7 (fun K hK => ?stepg7) AllReadyH.nil
      case hog7 => simp only [List.getElem?_toArray, List.getElem?_cons_succ, List.getElem?_cons_zero]; exact rfl
      go_simp
      refine hsl.mono ?_
      rintro e wb ⟨rfl, hlb⟩
      have HLF := hid (Ob.Left.pre HBA.out (HGF.out wb (VtO gv (seS v p.k (besd p i) l)) hlb))
      have HPBb : Hid (PgB wb w.heap.size p) := hid (by obtain ⟨_, -, hk, -⟩ := hlb; exact Blk.keep HPBa.out (hk.block _ HPBa.out.lt HGB.out))
      clear hsl hlb HGF
      refine hK.out _ _ (pgB_cells HPBb.out) (fun HS => ?_)
      clear hK K
      try simp only [Act.put, List.setIfInBounds_toArray, List.set_cons_zero, List.set_cons_succ]
      refine wpAnyH_take (i := 8) (oi := ?oig8) (v := ?vg8) ?hig8 (by kernel_rfl) (by kernel_rfl) (by kernel_rfl) ?hQg8 ?hyg8 HS ?restg8
      case hig8 => simp only [List.getElem?_toArray, List.getElem?_cons_succ, List.getElem?_cons_zero]; exact rfl
      case hQg8 => exact fun _ _ _ h => h
      case hyg8 =>
        refine Or.inl ⟨by rfl, ?_⟩
        intro wS hSw
        go_simp
        try with_reducible rfl
      try simp only [Act.put, List.setIfInBounds_toArray, List.set_cons_zero, List.set_cons_succ]
      refine wpAnyH_take (i := 9) (oi := ?oig9) (v := ?vg9) ?hig9 (by kernel_rfl) (by kernel_rfl) (by kernel_rfl) ?hQg9 ?hyg9 HS ?restg9
      case hig9 => simp only [List.getElem?_toArray, List.getElem?_cons_succ, List.getElem?_cons_zero]; exact rfl
      case hQg9 => exact fun _ _ _ h => h
      case hyg9 =>
        refine Or.inl ⟨by rfl, ?_⟩
        intro wS hSw
        go_simp
        try with_reducible rfl
      try simp only [Act.put, List.setIfInBounds_toArray, List.set_cons_zero, List.set_cons_succ]
      refine wpAnyH_take (i := 10) (oi := ?oig10) (v := ?vg10) ?hig10 (by kernel_rfl) (by kernel_rfl) (by kernel_rfl) ?hQg10 ?hyg10 HS ?restg10
      case hig10 => simp only [List.getElem?_toArray, List.getElem?_cons_succ, List.getElem?_cons_zero]; exact rfl
      case hQg10 => exact fun _ _ _ h => h
      case hyg10 =>
        refine Or.inl ⟨by rfl, ?_⟩
        intro wS hSw
        go_simp
        try with_reducible rfl
      try simp only [Act.put, List.setIfInBounds_toArray, List.set_cons_zero, List.set_cons_succ]
      refine wpAnyH_take (i := 11) (oi := ?oig11) (v := ?vg11) ?hig11 (by kernel_rfl) (by kernel_rfl) (by kernel_rfl) ?hQg11 ?hyg11 HS ?restg11
      case hig11 => simp only [List.getElem?_toArray, List.getElem?_cons_succ, List.getElem?_cons_zero]; exact rfl
      case hQg11 => exact fun _ _ _ h => h
      case hyg11 =>
        refine Or.inl ⟨by rfl, ?_⟩
        intro wS hSw
        go_simp
        try with_reducible rfl
      try simp only [Act.put, List.setIfInBounds_toArray, List.set_cons_zero, List.set_cons_succ]
      refine wpAnyH_take (i := 12) (oi := ?oig12) (v := ?vg12) ?hig12 (by kernel_rfl) (by kernel_rfl) (by kernel_rfl) ?hQg12 ?hyg12 HS ?restg12
      case hig12 => simp only [List.getElem?_toArray, List.getElem?_cons_succ, List.getElem?_cons_zero]; exact rfl
      case hQg12 => exact fun _ _ _ h => h
      case hyg12 =>
        refine Or.inl ⟨by rfl, ?_⟩
        intro wS hSw
        go_simp
        try with_reducible rfl
      try simp only [Act.put, List.setIfInBounds_toArray, List.set_cons_zero, List.set_cons_succ]
      refine wpAnyH_done (by kernel_rfl) ?_ _
      have HHB := hid (seH_lt (v := v) (k := p.k) (n := l.length) HL.out)
      have hob := onblock_c (seH v p.k l.length) HHB.out wb
      go_wp2_with fail
      refine hob.mono ?_
      rintro e wc ⟨Ac, cc, rfl, hoc, hbc⟩
      obtain ⟨F1, q1, k1, s1⟩ := HLF.out
      have q2 := ((DvO.ok gd d).and (VtO.ok gv (seS v p.k (besd p i) l))).keep wb wc F1 q1 hbc.size (fun j hj => hbc.block j (((DvO.ok gd d).and (VtO.ok gv (seS v p.k (besd p i) l))).lt wb F1 q1 j hj))
      obtain ⟨FD2, hFD2, hsub, hfw⟩ := Foc.one (Q := VtO gv (seS v p.k (besd p i) l)) Foc.self (VtO.ok gv _) (DvO gd d) wc F1 q2
      have hl8 : (le8 (seH v p.k l.length)).length = 8 := le_len 8 _
      have hwr := write_any wc FD2 gd d hFD2 i Ac 8 cc (le8 (seH v p.k l.length)) ((Bts.own hoc).wide (Nat.zero_le _) (Nat.le_refl _)) (fun _ u hu e => by
        have h1 := own_ge hoc u hu
        have h2 := ((DvO.ok gd d).and (VtO.ok gv (seS v p.k (besd p i) l))).lt wb F1 q1 u (hsub u e)
        omega) HW.out
      rw [hl8] at hwr
      have HC := hid (fun wd (hx : Left wc wd FD2 gd (wrS d i (le8 (seH v p.k l.length)))) => Ob.Left.next k1 s1 (Ob.Left.pre hbc (hfw wd (DvO gd (wrS d i (le8 (seH v p.k l.length)))) hx)))
      clear hob hoc hbc q1 k1 s1 q2 hFD2 hsub hfw hl8 HLF
      go_wp2_with fail
      refine hwr.mono ?_
      rintro e wd ⟨rfl, hld⟩
      have HF := hid (HC.out wd hld)
      clear hwr hld HC
      go_wp2
      go_ret
      exact ⟨by rw [HE.out]; rfl, by rw [HD.out, HV.out]; exact HF.out⟩
    · have HE : Hid (pwE d v i p l.length = seE v p.k l.length) := hid ((if_neg hbad).trans (if_pos hse))
      have HD : Hid (pwD d v i p l.length = d) := hid ((if_neg hbad).trans (if_pos hse))
      have z1 : (seE v p.k l.length == 0) = false := by simpa using hse
      have z2 : (seE v p.k l.length != 0) = true := by simpa using hse
      have z3 : decide (seE v p.k l.length = 0) = false := by simpa using hse
      clear hbad h0 h2 hse
      obtain ⟨E, hE⟩ : ∃ E : Int, seE v p.k l.length = E := ⟨_, rfl⟩
      rw [hE] at z1 z2 z3
      have HSE := hid hE
      clear hE
      generalize (d.n : Int) = N at *
      go_enter Try.func31, Try.ntmps31
      go_wp2_with fail
      refine hBl.mono ?_
      rintro e w2 ⟨rfl, rfl⟩
      clear hBl
      go_wp2_with fail
      clear e1 e2
      have HPBd := hid (pgB_drew HPB.out)
      have HB1d := hid HB1.out.drew
      have HHd := hid (HOK.out.keep w _ F HH.out HB1d.out.size (fun j hj => HB1d.out.block j (HLT.out j hj)))
      refine wp_region_held_drew (S := fun wx => wx.cell? ⟨w.heap.size, 0, none⟩ = some (.int .i64 p.k.t) ∧ wx.cell? ⟨w.heap.size, 1, none⟩ = some (.int .i64 p.k.c) ∧ wx.cell? ⟨w.heap.size, 2, none⟩ = some (.int .i64 p.k.e) ∧ wx.cell? ⟨w.heap.size, 3, none⟩ = some (.int .i64 p.id) ∧ wx.cell? ⟨w.heap.size, 4, none⟩ = some (.int .i64 p.ver)) (by kernel_rfl) (pgB_cells HPBd.out) (fun HS => ?_)
      have HSZ : Hid (w.heap.size < (w.alloc (.cells #[.int .i64 p.k.t, .int .i64 p.k.c, .int .i64 p.k.e, .int .i64 p.id, .int .i64 p.ver] 89)).drew.heap.size) := hid HPBd.out.lt
      generalize (w.alloc (.cells #[.int .i64 p.k.t, .int .i64 p.k.c, .int .i64 p.k.e, .int .i64 p.id, .int .i64 p.ver] 89)).drew = w4 at *
      refine wpAnyH_take (i := 0) (oi := ?oib0) (v := ?vb0) ?hib0 (by kernel_rfl) (by kernel_rfl) (by kernel_rfl) ?hQb0 ?hyb0 HS ?restb0
      case hib0 => simp only [List.getElem?_toArray, List.getElem?_cons_zero]; exact rfl
      case hQb0 => exact fun _ _ _ h => h
      case hyb0 =>
        refine Or.inl ⟨by rfl, ?_⟩
        intro wS hSw
        go_simp
        try with_reducible rfl
      try simp only [Act.put, List.setIfInBounds_toArray, List.set_cons_zero, List.set_cons_succ]
      refine wpAnyH_take (i := 1) (oi := ?oib1) (v := ?vb1) ?hib1 (by kernel_rfl) (by kernel_rfl) (by kernel_rfl) ?hQb1 ?hyb1 HS ?restb1
      case hib1 => simp only [List.getElem?_toArray, List.getElem?_cons_succ, List.getElem?_cons_zero]; exact rfl
      case hQb1 => exact fun _ _ _ h => h
      case hyb1 =>
        refine Or.inl ⟨by rfl, ?_⟩
        intro wS hSw
        go_simp
        try with_reducible rfl
      try simp only [Act.put, List.setIfInBounds_toArray, List.set_cons_zero, List.set_cons_succ]
      refine wpAnyH_take (i := 2) (oi := ?oib2) (v := ?vb2) ?hib2 (by kernel_rfl) (by kernel_rfl) (by kernel_rfl) ?hQb2 ?hyb2 HS ?restb2
      case hib2 => simp only [List.getElem?_toArray, List.getElem?_cons_succ, List.getElem?_cons_zero]; exact rfl
      case hQb2 => exact fun _ _ _ h => h
      case hyb2 =>
        refine Or.inl ⟨by rfl, ?_⟩
        intro wS hSw
        go_simp
        try with_reducible rfl
      try simp only [Act.put, List.setIfInBounds_toArray, List.set_cons_zero, List.set_cons_succ]
      refine wpAnyH_take (i := 3) (oi := ?oib3) (v := ?vb3) ?hib3 (by kernel_rfl) (by kernel_rfl) (by kernel_rfl) ?hQb3 ?hyb3 HS ?restb3
      case hib3 => simp only [List.getElem?_toArray, List.getElem?_cons_succ, List.getElem?_cons_zero]; exact rfl
      case hQb3 => exact fun _ _ _ h => h
      case hyb3 =>
        refine Or.inl ⟨by rfl, ?_⟩
        intro wS hSw
        go_simp
        try with_reducible rfl
      try simp only [Act.put, List.setIfInBounds_toArray, List.set_cons_zero, List.set_cons_succ]
      refine wpAnyH_take (i := 4) (oi := ?oib4) (v := ?vb4) ?hib4 (by kernel_rfl) (by kernel_rfl) (by kernel_rfl) ?hQb4 ?hyb4 HS ?restb4
      case hib4 => simp only [List.getElem?_toArray, List.getElem?_cons_succ, List.getElem?_cons_zero]; exact rfl
      case hQb4 => exact fun _ _ _ h => h
      case hyb4 =>
        refine Or.inl ⟨by rfl, ?_⟩
        intro wS hSw
        go_simp
        try with_reducible rfl
      try simp only [Act.put, List.setIfInBounds_toArray, List.set_cons_zero, List.set_cons_succ]
      refine wpAnyH_take (i := 6) (oi := ?oib6) (v := ?vb6) ?hib6 (by kernel_rfl) (by kernel_rfl) (by kernel_rfl) ?hQb6 ?hyb6 HS ?restb6
      case hib6 => simp only [List.getElem?_toArray, List.getElem?_cons_succ, List.getElem?_cons_zero]; exact rfl
      case hQb6 => exact fun _ _ _ h => h
      case hyb6 =>
        refine Or.inl ⟨by rfl, ?_⟩
        intro wS hSw
        go_simp
        try with_reducible rfl
      try simp only [Act.put, List.setIfInBounds_toArray, List.set_cons_zero, List.set_cons_succ]
      refine wpAnyH_ready (rs := [5]) (by kernel_rfl) (by simp) ?_
      refine AllReadyH.cons (o := ?ob5) ?hob5 (fun K hK => ?stepb5) AllReadyH.nil
      case hob5 => simp only [List.getElem?_toArray, List.getElem?_cons_succ, List.getElem?_cons_zero]; exact rfl
      go_simp
      refine (beside_c p HP.out i HI.out w4).mono ?_
      rintro e wa ⟨rfl, hba⟩
      have HBA := hid (HB1d.out.trans (hba.mono HB1d.out.size))
      have HPBa := hid (HPBd.out.below hba HPBd.out.lt)
      have HHa := hid (HOK.out.keep w wa F HH.out HBA.out.size (fun j hj => HBA.out.block j (HLT.out j hj)))
      clear hba HHd HPBd
      refine hK.out _ _ (pgB_cells HPBa.out) (fun HS => ?_)
      clear hK K
      try simp only [Act.put, List.setIfInBounds_toArray, List.set_cons_zero, List.set_cons_succ]
      obtain ⟨G, hG, hGs, hGf⟩ := Foc.two (Q := DvO gd d) Foc.self (DvO.ok gd d) (VtO gv v) wa F HHa.out
      have hsl := seal_any wa G gv v hG p.k HP.out.1 (besd p i) A n c l ((HR.out.below HBA.out (Nat.le_refl _)).wide (Nat.le_refl _) HBA.out.size) HL.out
      rw [HSE.out] at hsl
      have HGB : Hid (¬ G w.heap.size) := hid (fun e => Nat.lt_irrefl _ (HLT.out _ (hGs _ e)))
      have HGF := hid hGf
      clear hG hGs hGf
      refine wpAnyH_ready (rs := [7]) (by kernel_rfl) (by simp) ?_
      refine AllReadyH.cons (o := ?ob7) ?hob7 (fun K hK => ?stepb7) AllReadyH.nil
      case hob7 => simp only [List.getElem?_toArray, List.getElem?_cons_succ, List.getElem?_cons_zero]; exact rfl
      go_simp
      refine hsl.mono ?_
      rintro e wb ⟨rfl, hlb⟩
      have HLF := hid (Ob.Left.pre HBA.out (HGF.out wb (VtO gv (seS v p.k (besd p i) l)) hlb))
      have HPBb : Hid (PgB wb w.heap.size p) := hid (by obtain ⟨_, -, hk, -⟩ := hlb; exact Blk.keep HPBa.out (hk.block _ HPBa.out.lt HGB.out))
      clear hsl hlb HGF
      refine hK.out _ _ (pgB_cells HPBb.out) (fun HS => ?_)
      clear hK K
      try simp only [Act.put, List.setIfInBounds_toArray, List.set_cons_zero, List.set_cons_succ]
      refine wpAnyH_take (i := 8) (oi := ?oib8) (v := ?vb8) ?hib8 (by kernel_rfl) (by kernel_rfl) (by kernel_rfl) ?hQb8 ?hyb8 HS ?restb8
      case hib8 => simp only [List.getElem?_toArray, List.getElem?_cons_succ, List.getElem?_cons_zero]; exact rfl
      case hQb8 => exact fun _ _ _ h => h
      case hyb8 =>
        refine Or.inl ⟨by rfl, ?_⟩
        intro wS hSw
        go_simp
        try with_reducible rfl
      try simp only [Act.put, List.setIfInBounds_toArray, List.set_cons_zero, List.set_cons_succ]
      refine wpAnyH_take (i := 9) (oi := ?oib9) (v := ?vb9) ?hib9 (by kernel_rfl) (by kernel_rfl) (by kernel_rfl) ?hQb9 ?hyb9 HS ?restb9
      case hib9 => simp only [List.getElem?_toArray, List.getElem?_cons_succ, List.getElem?_cons_zero]; exact rfl
      case hQb9 => exact fun _ _ _ h => h
      case hyb9 =>
        refine Or.inl ⟨by rfl, ?_⟩
        intro wS hSw
        go_simp
        try with_reducible rfl
      try simp only [Act.put, List.setIfInBounds_toArray, List.set_cons_zero, List.set_cons_succ]
      refine wpAnyH_take (i := 10) (oi := ?oib10) (v := ?vb10) ?hib10 (by kernel_rfl) (by kernel_rfl) (by kernel_rfl) ?hQb10 ?hyb10 HS ?restb10
      case hib10 => simp only [List.getElem?_toArray, List.getElem?_cons_succ, List.getElem?_cons_zero]; exact rfl
      case hQb10 => exact fun _ _ _ h => h
      case hyb10 =>
        refine Or.inl ⟨by rfl, ?_⟩
        intro wS hSw
        go_simp
        try with_reducible rfl
      try simp only [Act.put, List.setIfInBounds_toArray, List.set_cons_zero, List.set_cons_succ]
      refine wpAnyH_take (i := 11) (oi := ?oib11) (v := ?vb11) ?hib11 (by kernel_rfl) (by kernel_rfl) (by kernel_rfl) ?hQb11 ?hyb11 HS ?restb11
      case hib11 => simp only [List.getElem?_toArray, List.getElem?_cons_succ, List.getElem?_cons_zero]; exact rfl
      case hQb11 => exact fun _ _ _ h => h
      case hyb11 =>
        refine Or.inl ⟨by rfl, ?_⟩
        intro wS hSw
        go_simp
        try with_reducible rfl
      try simp only [Act.put, List.setIfInBounds_toArray, List.set_cons_zero, List.set_cons_succ]
      refine wpAnyH_take (i := 12) (oi := ?oib12) (v := ?vb12) ?hib12 (by kernel_rfl) (by kernel_rfl) (by kernel_rfl) ?hQb12 ?hyb12 HS ?restb12
      case hib12 => simp only [List.getElem?_toArray, List.getElem?_cons_succ, List.getElem?_cons_zero]; exact rfl
      case hQb12 => exact fun _ _ _ h => h
      case hyb12 =>
        refine Or.inl ⟨by rfl, ?_⟩
        intro wS hSw
        go_simp
        try with_reducible rfl
      try simp only [Act.put, List.setIfInBounds_toArray, List.set_cons_zero, List.set_cons_succ]
      refine wpAnyH_done (by kernel_rfl) ?_ _
      go_wp2
      go_ret
      exact ⟨by rw [HE.out, HSE.out]; rfl, by rw [HD.out, HV.out]; exact HLF.out⟩
end Go.Proofs.Ytocmgdhgimpfhaa
