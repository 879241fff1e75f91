/- What strongroomref09.Directory returns. Nothing is assumed. -/
import Derived.Test.YtdkbpjkoiegflaaGreatRsW
import Derived.Test.YtdkbpjkoiegflaaGreatPkRefA
import Derived.Test.YtdkbpjkoiegflaaGreatApL
namespace Go.Proofs.YtdkbpjkoiegflaaGreat
open Go.RowKit

theorem rd_info : (Tryz.prog.info? 5).map (fun i => (i.zero, i.size, i.bytes)) = some (some (.int .u8 0), 1, 1) := by kernel_rfl
section
variable {op : Oper} {a : Act} {w : World} {K : Act → World → Prop} {Q : Exit → Act → World → Prop}
theorem rd_run (ty : TypeId) {base : Nat} {A : Option Addr} {n c : Nat} {P : List UInt8} (hown : w.ownsRow base 5 1 (.slice A n c) n (bs P)) {lo hi : Nat} {A2 : Option Addr} {m c2 : Nat} {l : List UInt8} (hb : Bts w lo hi A2 m l) (hn : n + m ≤ 1000000000) (hbase : base ≤ w.heap.size) :
    ∃ A' c' w', (Builtin.append_ #[51, 51] ty #[.slice A n c, .slice A2 m c2]).run Tryz.prog w = .ok (.slice A' (n + m) c') w' ∧ Grew base 5 1 w w' A A' (n + m) c' (bs (P ++ l)) := by
  have h := run_append_L (P := Tryz.prog) w 51 ty 5 (.int .u8 0) 1 1 Tryz.underlying51 rd_info rfl (by decide) base A n c (bs P) hown A2 m c2 (bs l) (by rw [bs_len, hb.len, Nat.mul_one]) (fun h0 => by
    obtain ⟨g, off, e, _, _, hc⟩ := hb.2 h0
    exact ⟨g, off, e, fun j u hu => hc j u hu⟩) (bs_one l) (by omega) (by unfold maxLen; omega) hbase
  rwa [← bs_app] at h
theorem rd_runS (ty : TypeId) {base : Nat} {A : Option Addr} {n c : Nat} {P : List UInt8} (hown : w.ownsRow base 5 1 (.slice A n c) n (bs P)) (l : List UInt8) (hn : n + l.length ≤ 1000000000) (hbase : base ≤ w.heap.size) :
    ∃ A' c' w', (Builtin.append_ #[51, 9] ty #[.slice A n c, .string (str l)]).run Tryz.prog w = .ok (.slice A' (n + l.length) c') w' ∧ w'.ownsRow base 5 1 (.slice A' (n + l.length) c') (n + l.length) (bs (P ++ l)) ∧ n + l.length ≤ c' ∧ w.grownBy w' (A.map (·.block)) := by
  obtain ⟨i, hi, hz0, hz1, hz2⟩ := info_parts rd_info
  obtain ⟨v', w', h1, h2, h3, _⟩ := Lib.run_append_own_string (P := Tryz.prog) w base 51 9 ty 5 i Tryz.underlying51 Tryz.underlying9 hi hz0 hz1 hz2 (.slice A n c) n (bs P) hown (str l) (by rw [str_size]; unfold maxLen; omega) (by rw [str_size]; omega) hbase
  rw [str_size] at h2
  obtain ⟨A', c', rfl, hc'⟩ := own_form h2
  have e : bs P ++ Lib.strCells (str l) = bs (P ++ l) := by rw [bs_app]; rfl
  rw [e] at h2
  have h4 : (Value.slice A n c).ownBlock = A.map (·.block) := by cases A <;> rfl
  rw [h4] at h3
  exact ⟨A', c', w', h1, h2, hc', h3⟩
theorem wp_rdS (s x : Operand) (ho : op.op = .call { callee := .builtin .append, args := #[s, x], argTypes := #[51, 9] }) {vs vx v' : Value} {w' : World} (hs : a.eval s = vs) (hx : a.eval x = vx)
    (hrun : (Builtin.append_ #[51, 9] op.type #[vs, vx]).run Tryz.prog w = .ok v' w') (h : K (a.put op.dst v') w') : op.wp Tryz.prog a w K Q := by
  unfold Oper.wp execOp
  simp only [ho, resolve, invoke, builtin, Sem.run_bind, Sem.run_pure, Result.andThen_ok, List.map_toArray, List.map_cons, List.map_nil, hs, hx, hrun]
  exact h
end
/-- append(b, t...), in a walk. -/
theorem wpList_rd (w : World) {ops : Array Oper} {rest : List Oper} {o : Oper} {a : Act} {Q : Exit → Act → World → Prop} (hgd : o.guard = none) (s x : Operand)
    (ho : o.op = .call { callee := .builtin .append, args := #[s, x], argTypes := #[51, 51] })
    {base : Nat} {A : Option Addr} {n c : Nat} {P : List UInt8} (hs : a.eval s = .slice A n c) (hown : w.ownsRow base 5 1 (.slice A n c) n (bs P)) {lo hi : Nat} {A2 : Option Addr} {m c2 : Nat} {l : List UInt8} (hx : a.eval x = .slice A2 m c2) (hb : Bts w lo hi A2 m l) (hn : n + m ≤ 1000000000) (hbase : base ≤ w.heap.size)
    (h : ∀ A' c' w', Grew base 5 1 w w' A A' (n + m) c' (bs (P ++ l)) → wpList Tryz.prog ops Q rest (a.put o.dst (.slice A' (n + m) c')) w') :
    wpList Tryz.prog ops Q (o :: rest) a w :=
  wpList_plain hgd fun K hK => by
    obtain ⟨A', c', w', hrun, hgr⟩ := rd_run o.type hown hb hn hbase
    exact wp_append_run 51 s x ho _ _ _ hs hx hrun (hK _ _ (h A' c' w' hgr))
def xsB (x : Bb) : List Int := [x.k.t, x.k.c, x.k.e, x.b, x.p.id, x.p.ver, x.sz]
theorem numsB_snoc (xs : List Int) {i : Nat} (hi : i < xs.length) : numsB (xs.take (i + 1)) = numsB (xs.take i) ++ num xs[i] := by
  unfold numsB
  rw [List.take_succ_eq_append_getElem hi, List.flatMap_append]
  show _ ++ (num xs[i] ++ []) = _
  rw [List.append_nil]
theorem xsB_cell {w : World} {b : Nat} {t : TypeId} {x : Bb} (h : Blk w b t #[.int .i64 x.k.t, .int .i64 x.k.c, .int .i64 x.k.e, .int .i64 x.b, .int .i64 x.p.id, .int .i64 x.p.ver, .int .i64 x.sz]) {i : Nat} (hi : i < (xsB x).length) : w.cell? ⟨b, i, none⟩ = some (.int .i64 (xsB x)[i]) := by
  have h7 : i < 7 := hi
  match i, h7 with
  | 0, _ => exact (h.cell 0).trans rfl
  | 1, _ => exact (h.cell 1).trans rfl
  | 2, _ => exact (h.cell 2).trans rfl
  | 3, _ => exact (h.cell 3).trans rfl
  | 4, _ => exact (h.cell 4).trans rfl
  | 5, _ => exact (h.cell 5).trans rfl
  | 6, _ => exact (h.cell 6).trans rfl
theorem xsB_ok {x : Bb} (h : x.wf) {i : Nat} (hi : i < (xsB x).length) : i64ok (xsB x)[i] := by
  obtain ⟨h1, h2, h3, h4, h5, h6⟩ := h
  have h7 : i < 7 := hi
  match i, h7 with
  | 0, _ => exact h2.1
  | 1, _ => exact h2.2.1
  | 2, _ => exact h2.2.2
  | 3, _ => exact h3
  | 4, _ => exact h4
  | 5, _ => exact h5
  | 6, _ => exact h6
theorem w7 {i : Nat} (h : i < 7) : wrap64 ((i : Int) + 1) = ((i + 1 : Nat) : Int) := by unfold wrap64; omega
theorem own_ncR {w : World} {base : Nat} {e : TypeId} {A : Option Addr} {n c : Nat} {xs : List Value} (h : w.ownsRow base e 1 (.slice A n c) n xs) : n ≤ c := by
  obtain ⟨A', c', h1, h2⟩ := own_form h
  injection h1 with _ _ h3
  rw [h3]; exact h2
set_option maxRecDepth 100000 in
set_option maxHeartbeats 16000000 in
theorem rdir_c (A : Option Addr) (n c : Nat) (l : List Bb) (w : World) (h : BSl w w.heap.size A n l) (hw : ∀ x ∈ l, x.wf) (hn : ∀ x ∈ l, x.nm.length ≤ 100000) (hl : n ≤ 100000) (hs : (dirB l).length ≤ 100000000) :
    Calls Tryz.prog 40 #[.slice A n c] w (Row w (dirB l)) := by
  have HL := hid h
  have HW := hid hw
  have HNM := hid hn
  have HN := hid hl
  have HLN := hid h.1
  have HSZ := hid hs
  have u1 : IntKind.u64.wrap (n : Int) = (n : Int) := IntWalk.u64_in _ (by omega)
  clear h hw hn hl hs
  go_enter Tryz.func40, Tryz.ntmps40
  go_wp2_with fail
  refine (refNatural_c n n _ (Nat.le_refl _) (by have := HN.out; omega)).mono ?_
  intro e w1 hr
  obtain ⟨A1, m1, c1, rfl, hm1, hc1, ho1, hB1, hb1⟩ := hr.out
  have HO1 : Hid (w1.ownsRow w.heap.size 5 1 (.slice A1 m1 c1) m1 (bs (nat n ++ entsB (l.take 0)))) := hid (by rw [List.take_zero]; show w1.ownsRow _ _ _ _ _ (bs (nat n ++ [])); rw [List.append_nil]; exact ho1)
  have HBL1 := hid hb1
  clear hr hm1 hc1 ho1 hB1 hb1 u1
  go_wp2_with fail
  go_loopg [3, 14] n (fun kk ov iv wr => ∃ (j : Nat) (A' : Option Addr) (m' c' : Nat), ov = .slice A' m' c' ∧ iv = .int .i64 (j : Int) ∧ Hid (kk = n - j) ∧ Hid (j ≤ n) ∧ Hid (wr.ownsRow w.heap.size 5 1 (.slice A' m' c') m' (bs (nat n ++ entsB (l.take j)))) ∧ Hid (Below w.heap.size w wr))
  case atStart => exact ⟨0, A1, m1, c1, rfl, rfl, hid rfl, hid (Nat.zero_le _), HO1, HBL1⟩
  case round =>
    obtain ⟨j, A', m', c', rfl, rfl, hgk, hj, hO, hB⟩ := hrel
    clear HO1 HBL1
    rename World => wr
    rcases Nat.lt_or_ge j n with hlt | hge
    · have HJ := hid hlt
      have hjl : j < l.length := by rw [HLN.out]; exact hlt
      have j1 : (0 : Int) ≤ (j : Int) := Int.natCast_nonneg j
      have j2 : (j : Int) < (n : Int) := Int.ofNat_lt.2 hlt
      have j3 : decide ((j : Int) < (n : Int)) = true := decide_eq_true j2
      have j4 : decide (j < n) = true := decide_eq_true hlt
      have wj : wrap64 ((j : Int) + 1) = ((j + 1 : Nat) : Int) := rs_w HN.out hlt
      obtain ⟨b, off, rfl, hbl, hr⟩ := HL.out.2 j hjl
      have HSN := hid (entsB_snoc hjl)
      have HXW := hid (HW.out _ (List.getElem_mem hjl))
      have HXN := hid (HNM.out _ (List.getElem_mem hjl))
      have HML : Hid (m' ≤ 100000000) := hid (by
        have h1 := hO.out.1
        rw [bs_len, List.length_append] at h1
        have h2 := entsB_le l j
        have h3 := HSZ.out
        unfold dirB at h3
        rw [List.length_append, HLN.out] at h3
        omega)
      generalize l[j] = x at *
      obtain ⟨P, hP⟩ : ∃ P, P = nat n ++ entsB (l.take j) := ⟨_, rfl⟩
      rw [← hP] at hO
      have HPP := hid hP
      clear hP
      obtain ⟨c0, c1', c2, c3, c4, c5, c6, c7, c8, c9, c10⟩ := range11 (rangeAt_keep hr (hB.out.block b hbl))
      have HBX := hid (Blk.new wr 90 #[.string (str x.nm), .int .i64 x.k.t, .int .i64 x.k.c, .int .i64 x.k.e, .int .i64 x.b, .int .i64 x.p.k.t, .int .i64 x.p.k.c, .int .i64 x.p.k.e, .int .i64 x.p.id, .int .i64 x.p.ver, .int .i64 x.sz])
      have hbx : Below wr.heap.size wr (wr.alloc (.cells #[.string (str x.nm), .int .i64 x.k.t, .int .i64 x.k.c, .int .i64 x.k.e, .int .i64 x.b, .int .i64 x.p.k.t, .int .i64 x.p.k.c, .int .i64 x.p.k.e, .int .i64 x.p.id, .int .i64 x.p.ver, .int .i64 x.sz] 90)) := (Below.refl _ _).alloc (Nat.le_refl _) _
      have HB2 : Hid (Below w.heap.size w (wr.alloc (.cells #[.string (str x.nm), .int .i64 x.k.t, .int .i64 x.k.c, .int .i64 x.k.e, .int .i64 x.b, .int .i64 x.p.k.t, .int .i64 x.p.k.c, .int .i64 x.p.k.e, .int .i64 x.p.id, .int .i64 x.p.ver, .int .i64 x.sz] 90))) := hid (hB.out.trans (hbx.mono hB.out.size))
      have HO2 := hid (World.ownsRow.below hO.out hbx)
      have HAL : Hid (∀ d, A'.map (·.block) = some d → d ≠ wr.heap.size) := hid (fun d hd e => by have := own_lt hO.out d hd; rw [e] at this; exact absurd this (Nat.lt_irrefl _))
      have x0 := (HBX.out.cell 0).trans rfl
      have u2 : IntKind.u64.wrap ((x.nm.length : Nat) : Int) = ((x.nm.length : Nat) : Int) := IntWalk.u64_in _ (by have := HXN.out; omega)
      have hsz0 := str_size x.nm
      clear hlt hjl hbl hr hbx
      go_wp2_with fail
      clear c0 c1' c2 c3 c4 c5 c6 c7 c8 c9 c10
      have hd2 := (Below.refl (wr.alloc (.cells #[.string (str x.nm), .int .i64 x.k.t, .int .i64 x.k.c, .int .i64 x.k.e, .int .i64 x.b, .int .i64 x.p.k.t, .int .i64 x.p.k.c, .int .i64 x.p.k.e, .int .i64 x.p.id, .int .i64 x.p.ver, .int .i64 x.sz] 90)).heap.size (wr.alloc (.cells #[.string (str x.nm), .int .i64 x.k.t, .int .i64 x.k.c, .int .i64 x.k.e, .int .i64 x.b, .int .i64 x.p.k.t, .int .i64 x.p.k.c, .int .i64 x.p.k.e, .int .i64 x.p.id, .int .i64 x.p.ver, .int .i64 x.sz] 90))).drew
      have HO2d := hid (World.ownsRow.below HO2.out hd2)
      have HB2d := hid (HB2.out.drew)
      have HBX2 := hid (HBX.out.keep (hd2.block _ HBX.out.lt))
      clear hd2 HO2 HB2 HBX
      refine wp_region_held_drew (S := fun wx => wx.cell? ⟨wr.heap.size, 0, none⟩ = some (.string (str x.nm))) (by kernel_rfl) ((HBX2.out.cell 0).trans rfl) (fun HS => ?_)
      refine wpAnyH_take (i := 0) (oi := ?oi0) (v := ?v0) ?hi0 (by kernel_rfl) (by kernel_rfl) (by kernel_rfl) ?hQ0 ?hy0 HS ?rest0
      case hi0 => simp only [List.getElem?_toArray, List.getElem?_cons_zero]; exact rfl
      case hQ0 => exact fun _ _ _ h => h
      case hy0 =>
        refine Or.inl ⟨by rfl, ?_⟩
        intro wS hSw
        go_simp
        try with_reducible rfl
      try simp only [Act.put, List.setIfInBounds_toArray, List.set_cons_zero, List.set_cons_succ]
      refine wpAnyH_take (i := 1) (oi := ?oi1) (v := ?v1) ?hi1 (by kernel_rfl) (by kernel_rfl) (by kernel_rfl) ?hQ1 ?hy1 HS ?rest1
      case hi1 => simp only [List.getElem?_toArray, List.getElem?_cons_succ, List.getElem?_cons_zero]; exact rfl
      case hQ1 => exact fun _ _ _ h => h
      case hy1 =>
        refine Or.inl ⟨by rfl, ?_⟩
        intro wS hSw
        go_simp
        try with_reducible rfl
      try simp only [Act.put, List.setIfInBounds_toArray, List.set_cons_zero, List.set_cons_succ]
      refine wpAnyH_take (i := 2) (oi := ?oi2) (v := ?v2) ?hi2 (by kernel_rfl) (by kernel_rfl) (by kernel_rfl) ?hQ2 ?hy2 HS ?rest2
      case hi2 => simp only [List.getElem?_toArray, List.getElem?_cons_succ, List.getElem?_cons_zero]; exact rfl
      case hQ2 => exact fun _ _ _ h => h
      case hy2 =>
        refine Or.inl ⟨by rfl, ?_⟩
        intro wS hSw
        have z0 := hSw
        go_simp
        try with_reducible rfl
      try simp only [Act.put, List.setIfInBounds_toArray, List.set_cons_zero, List.set_cons_succ]
      refine wpAnyH_take (i := 3) (oi := ?oi3) (v := ?v3) ?hi3 (by kernel_rfl) (by kernel_rfl) (by kernel_rfl) ?hQ3 ?hy3 HS ?rest3
      case hi3 => simp only [List.getElem?_toArray, List.getElem?_cons_succ, List.getElem?_cons_zero]; exact rfl
      case hQ3 => exact fun _ _ _ h => h
      case hy3 =>
        refine Or.inl ⟨by rfl, ?_⟩
        intro wS hSw
        go_simp
        try with_reducible rfl
      try simp only [Act.put, List.setIfInBounds_toArray, List.set_cons_zero, List.set_cons_succ]
      refine wpAnyH_take (i := 4) (oi := ?oi4) (v := ?v4) ?hi4 (by kernel_rfl) (by kernel_rfl) (by kernel_rfl) ?hQ4 ?hy4 HS ?rest4
      case hi4 => simp only [List.getElem?_toArray, List.getElem?_cons_succ, List.getElem?_cons_zero]; exact rfl
      case hQ4 => exact fun _ _ _ h => h
      case hy4 =>
        refine Or.inl ⟨by rfl, ?_⟩
        intro wS hSw
        go_simp
        try with_reducible rfl
      try simp only [Act.put, List.setIfInBounds_toArray, List.set_cons_zero, List.set_cons_succ]
      refine wpAnyH_take (i := 7) (oi := ?oi7) (v := ?v7) ?hi7 (by kernel_rfl) (by kernel_rfl) (by kernel_rfl) ?hQ7 ?hy7 HS ?rest7
      case hi7 => simp only [List.getElem?_toArray, List.getElem?_cons_succ, List.getElem?_cons_zero]; exact rfl
      case hQ7 => exact fun _ _ _ h => h
      case hy7 =>
        refine Or.inl ⟨by rfl, ?_⟩
        intro wS hSw
        go_simp
        try with_reducible rfl
      try simp only [Act.put, List.setIfInBounds_toArray, List.set_cons_zero, List.set_cons_succ]
      refine wpAnyH_take (i := 8) (oi := ?oi8) (v := ?v8) ?hi8 (by kernel_rfl) (by kernel_rfl) (by kernel_rfl) ?hQ8 ?hy8 HS ?rest8
      case hi8 => simp only [List.getElem?_toArray, List.getElem?_cons_succ, List.getElem?_cons_zero]; exact rfl
      case hQ8 => exact fun _ _ _ h => h
      case hy8 =>
        refine Or.inl ⟨by rfl, ?_⟩
        intro wS hSw
        have z0 := hSw
        go_simp
        try with_reducible rfl
      try simp only [Act.put, List.setIfInBounds_toArray, List.set_cons_zero, List.set_cons_succ]
      refine wpAnyH_ready (rs := [5]) (by kernel_rfl) (by simp) ?_
      refine AllReadyH.cons (o := ?o5) ?ho5 (fun K hK => ?step5) AllReadyH.nil
      case ho5 => simp only [List.getElem?_toArray, List.getElem?_cons_succ, List.getElem?_cons_zero]; exact rfl
      go_simp
      refine (refNatural_c x.nm.length x.nm.length _ (Nat.le_refl _) (by have := HXN.out; omega)).mono ?_
      intro e w3 hr3
      obtain ⟨A3, m3, c3, rfl, hm3, hc3, ho3, hB3, hb3⟩ := hr3.out
      have HO3 := hid (World.ownsRow.below HO2d.out hb3)
      have HB3 := hid (HB2d.out.trans (hb3.mono HB2d.out.size))
      have HBX3 := hid (HBX2.out.keep (hb3.block _ HBX2.out.lt))
      have HM3 : Hid (m3 ≤ 10) := hid (by have := hm3.out; have := nat_len_u64 HXW.out.1; omega)
      have HT3 := hid hB3
      clear hr3 hm3 hc3 ho3 hB3 hb3
      refine hK.out _ _ ((HBX3.out.cell 0).trans rfl) (fun HS => ?_)
      clear hK K
      try simp only [Act.put, List.setIfInBounds_toArray, List.set_cons_zero, List.set_cons_succ]
      refine wpAnyH_ready (rs := [6]) (by kernel_rfl) (by simp) ?_
      refine AllReadyH.cons (o := ?o6) ?ho6 (fun K hK => ?step6) AllReadyH.nil
      case ho6 => simp only [List.getElem?_toArray, List.getElem?_cons_succ, List.getElem?_cons_zero]; exact rfl
      obtain ⟨A4, c4, w4, hrun4, hgr4⟩ := rd_run 51 HO3.out HT3.out (by have := HML.out; have := HM3.out; omega) HB3.out.size
      refine wp_append_run 51 _ _ rfl _ _ _ rfl rfl hrun4 ?_
      have HO4 := hid hgr4.1
      have HB4 := hid (HB3.out.trans (grown_below hgr4.2.2.1 HB3.out.size fun d hd => own_ge HO3.out d hd))
      have HBX4 := hid (HBX3.out.keep (hgr4.2.2.1.block _ HBX3.out.lt (fun e => HAL.out _ e.symm rfl)))
      have HAL4 : Hid (∀ d, A4.map (·.block) = some d → d ≠ wr.heap.size) := hid (fun d hd => by
        rcases hgr4.2.2.2 d hd with e | e
        · exact HAL.out d e
        · rw [e]; exact Nat.ne_of_gt HBX3.out.lt)
      clear hgr4 hrun4
      refine hK.out _ _ ((HBX4.out.cell 0).trans rfl) (fun HS => ?_)
      clear hK K
      try simp only [Act.put, List.setIfInBounds_toArray, List.set_cons_zero, List.set_cons_succ]
      refine wpAnyH_ready (rs := [9]) (by kernel_rfl) (by simp) ?_
      refine AllReadyH.cons (o := ?o9) ?ho9 (fun K hK => ?step9) AllReadyH.nil
      case ho9 => simp only [List.getElem?_toArray, List.getElem?_cons_succ, List.getElem?_cons_zero]; exact rfl
      obtain ⟨A5, c5, w5, hrun5, ho5, -, hg5⟩ := rd_runS 51 HO4.out x.nm (by have := HML.out; have := HM3.out; have := HXN.out; omega) HB4.out.size
      refine wp_rdS _ _ rfl rfl rfl hrun5 ?_
      have HO5 := hid ho5
      have HB5 := hid (HB4.out.trans (grown_below hg5 HB4.out.size fun d hd => own_ge HO4.out d hd))
      have HBX5 := hid (HBX4.out.keep (hg5.block _ HBX4.out.lt (fun e => HAL4.out _ e.symm rfl)))
      clear ho5 hg5 hrun5
      refine hK.out _ _ ((HBX5.out.cell 0).trans rfl) (fun HS => ?_)
      clear hK K
      try simp only [Act.put, List.setIfInBounds_toArray, List.set_cons_zero, List.set_cons_succ]
      refine wpAnyH_take (i := 10) (oi := ?oi10) (v := ?v10) ?hi10 (by kernel_rfl) (by kernel_rfl) (by kernel_rfl) ?hQ10 ?hy10 HS ?rest10
      case hi10 => simp only [List.getElem?_toArray, List.getElem?_cons_succ, List.getElem?_cons_zero]; exact rfl
      case hQ10 => exact fun _ _ _ h => h
      case hy10 =>
        refine Or.inl ⟨by rfl, ?_⟩
        intro wS hSw
        go_simp
        try with_reducible rfl
      try simp only [Act.put, List.setIfInBounds_toArray, List.set_cons_zero, List.set_cons_succ]
      refine wpAnyH_done (by kernel_rfl) ?_ _
      have HENT : Hid (nat n ++ entsB (l.take (j + 1)) = nat n ++ entsB (l.take j) ++ (nat x.nm.length ++ x.nm) ++ numsB (xsB x)) := hid (by rw [HSN.out]; unfold entB txtB xsB; simp only [List.append_assoc])
      have HLP : Hid (m' + m3 + x.nm.length ≤ 100200000) := hid (by have := HML.out; have := HM3.out; have := HXN.out; omega)
      have HA5 : Hid (∀ d, A5.map (·.block) = some d → d < w5.heap.size) := hid (fun d hd => own_lt HO5.out d hd)
      obtain ⟨x0, x1, x2, x3, x4, x5, x6, x7, x8, x9, x10⟩ := bbB_cells (x := x) HBX5.out
      clear HS HO2d HB2d HBX2 HO3 HB3 HBX3 HT3 HO4 HB4 HBX4 HAL4 HAL
      go_wp2_with fail
      clear x0 x1 x2 x3 x4 x5 x6 x7 x8 x9 x10
      have HQ6 := hid (Blk.new w5 3 #[.int .i64 x.k.t, .int .i64 x.k.c, .int .i64 x.k.e, .int .i64 x.b, .int .i64 x.p.id, .int .i64 x.p.ver, .int .i64 x.sz])
      have hq6 : Below w5.heap.size w5 (w5.alloc (.cells #[.int .i64 x.k.t, .int .i64 x.k.c, .int .i64 x.k.e, .int .i64 x.b, .int .i64 x.p.id, .int .i64 x.p.ver, .int .i64 x.sz] 3)) := (Below.refl _ _).alloc (Nat.le_refl _) _
      have HO6 := hid (World.ownsRow.below HO5.out hq6)
      have HB6 := hid (HB5.out.trans (hq6.mono HB5.out.size))
      have HA6 : Hid (∀ d, A5.map (·.block) = some d → d ≠ w5.heap.size) := hid (fun d hd => Nat.ne_of_lt (HA5.out d hd))
      clear hq6 HO5 HB5 HBX5 HA5
      generalize w5.heap.size = qb at *
      generalize w5.alloc (.cells #[.int .i64 x.k.t, .int .i64 x.k.c, .int .i64 x.k.e, .int .i64 x.b, .int .i64 x.p.id, .int .i64 x.p.ver, .int .i64 x.sz] 3) = w6 at *
      have HO6' : Hid (w6.ownsRow w.heap.size 5 1 (.slice A5 (m' + m3 + x.nm.length) c5) (m' + m3 + x.nm.length) (bs (nat n ++ entsB (l.take j) ++ (nat x.nm.length ++ x.nm) ++ numsB ((xsB x).take 0)))) := hid (by
        have := HO6.out
        rw [List.take_zero]
        show w6.ownsRow _ _ _ _ _ (bs (_ ++ []))
        rw [List.append_nil]
        rw [HPP.out] at this
        simpa only [List.append_assoc] using this)
      generalize nat n ++ entsB (l.take j) ++ (nat x.nm.length ++ x.nm) = PP at *
      go_loopg [3, 49] 7 (fun k2 ov iv wq => ∃ (i : Nat) (A6 : Option Addr) (m6 c6 : Nat), ov = .slice A6 m6 c6 ∧ iv = .int .i64 (i : Int) ∧ Hid (k2 = 7 - i) ∧ Hid (i ≤ 7) ∧ Hid (m6 ≤ 100200000 + 10 * i) ∧ Hid (∀ d, A6.map (·.block) = some d → d ≠ qb) ∧ Hid (Blk wq qb 3 #[.int .i64 x.k.t, .int .i64 x.k.c, .int .i64 x.k.e, .int .i64 x.b, .int .i64 x.p.id, .int .i64 x.p.ver, .int .i64 x.sz]) ∧ Hid (wq.ownsRow w.heap.size 5 1 (.slice A6 m6 c6) m6 (bs (PP ++ numsB ((xsB x).take i)))) ∧ Hid (Below w.heap.size w wq))
      case atStart => exact ⟨0, A5, _, c5, rfl, rfl, hid rfl, hid (Nat.zero_le _), HLP, HA6, HQ6, HO6', HB6⟩
      case round =>
      obtain ⟨i, A6, m6, c6, rfl, rfl, hgk2, hi, hm6, hA6, hQ, hO7, hB7⟩ := hrel
      clear HO6 HO6' HB6 HQ6 HA6
      rename World => wq
      rcases Nat.lt_or_ge i 7 with hlt2 | hge2
      · have HI7 := hid hlt2
        have hix : i < (xsB x).length := hlt2
        have i1 : (0 : Int) ≤ (i : Int) := Int.natCast_nonneg i
        have i2 : (i : Int) < 7 := by omega
        have i3 : decide ((i : Int) < 7) = true := decide_eq_true i2
        have i4 : decide (i < 7) = true := decide_eq_true hlt2
        have wi := w7 hlt2
        have hcell := xsB_cell hQ.out hix
        have HSN2 := hid (numsB_snoc (xsB x) hix)
        have HZ := hid (xsB_ok HXW.out hix)
        generalize (xsB x)[i] = z at *
        clear hlt2 hix
        go_wp2_with fail
        refine (refFolded_c z _ HZ.out.1 HZ.out.2).mono ?_
        rintro e w0 ⟨rfl, rfl⟩
        go_wp2_with fail
        refine (refNatural_c (fold z) (fold z) _ (Nat.le_refl _) (fold_lt HZ.out.1 HZ.out.2)).mono ?_
        intro e w8 hr8
        obtain ⟨A8, m8, c8, rfl, hm8, hc8, ho8, hB8, hb8⟩ := hr8.out
        have HM8 : Hid (m8 ≤ 10) := hid (by have := hm8.out; have := nat_len_u64 (fold_lt HZ.out.1 HZ.out.2); omega)
        have HO8 := hid (World.ownsRow.below hO7.out hb8)
        have HB8 := hid (hB7.out.trans (hb8.mono hB7.out.size))
        have HQ8 := hid (hQ.out.keep (hb8.block _ hQ.out.lt))
        have HT8 := hid hB8
        clear hr8 hm8 hc8 ho8 hB8 hb8 hcell hO7 hB7 hQ
        go_wp2_with (at_builtin; refine wpList_rd w8 rfl _ _ rfl rfl HO8.out rfl HT8.out (by have := hm6.out; have := HM8.out; have := HI7.out; omega) HB8.out.size ?_)
        intro A9 c9 w9 hgr9
        have HO9 : Hid (w9.ownsRow w.heap.size 5 1 (.slice A9 (m6 + m8) c9) (m6 + m8) (bs (PP ++ numsB ((xsB x).take (i + 1))))) := hid (by have := hgr9.1; rw [HSN2.out]; exact this)
        have HB9 := hid (HB8.out.trans (grown_below hgr9.2.2.1 HB8.out.size fun d hd => own_ge HO8.out d hd))
        have HQ9 := hid (HQ8.out.keep (hgr9.2.2.1.block _ HQ8.out.lt (fun e => hA6.out _ e.symm rfl)))
        have HA9 : Hid (∀ d, A9.map (·.block) = some d → d ≠ qb) := hid (fun d hd => by
          rcases hgr9.2.2.2 d hd with e | e
          · exact hA6.out d e
          · rw [e]; exact Nat.ne_of_gt HQ8.out.lt)
        have HM9 : Hid (m6 + m8 ≤ 100200000 + 10 * (i + 1)) := hid (by have := hm6.out; have := HM8.out; omega)
        clear hgr9 HO8 HB8 HQ8 HT8
        go_wp2_with fail
        go_roundg (7 - (i + 1))
        case measure => exact rs_meas hgk2.out HI7.out
        case rel => exact ⟨i + 1, A9, m6 + m8, c9, rfl, by first | rfl | rw [wi], hid rfl, hid HI7.out, HM9, HA9, HQ9, HO9, HB9⟩
      · have hi7 : i = 7 := by have := hi.out; omega
        subst hi7
        have HO10 : Hid (wq.ownsRow w.heap.size 5 1 (.slice A6 m6 c6) m6 (bs (nat n ++ entsB (l.take (j + 1))))) := hid (by rw [HENT.out]; have := hO7.out; rwa [show (xsB x).take 7 = xsB x from rfl] at this)
        clear hge2 hi hgk2
        go_wp2_with fail
        go_roundg (n - (j + 1))
        case measure => exact rs_meas hgk.out HJ.out
        case rel => exact ⟨j + 1, A6, m6, c6, rfl, by first | rfl | rw [wj], hid rfl, hid HJ.out, HO10, hB7⟩
    · have hjn : j = n := by have := hj.out; omega
      subst hjn
      have j2 : ¬ (j : Int) < (j : Int) := fun e => absurd e (Int.lt_irrefl _)
      have HE : Hid (nat j ++ entsB (l.take j) = dirB l) := hid (by unfold dirB; rw [List.take_of_length_le (Nat.le_of_eq HLN.out), HLN.out])
      clear hge hj hgk
      go_wp2
      go_ret
      have ho := hO.out
      rw [HE.out] at ho
      have hm : (dirB l).length = m' := by have := ho.1; rw [bs_len] at this; omega
      subst hm
      exact ⟨A', c', rfl, own_ncR ho, ho, hB.out⟩
end Go.Proofs.YtdkbpjkoiegflaaGreat
