/- What store.Get, List and Free return, in their place among others. Nothing is assumed. -/
import Derived.Test.YtdkbpjkoiegflaaGreatStOp
namespace Go.Proofs.YtdkbpjkoiegflaaGreat
open Go.RowKit

theorem prB_err {d : St} {v : Va} {i : Int} {p : Pg} (h : prE d v i p ≠ 0) : prB d v i p = [] := by
  unfold prE at h
  unfold prB
  split
  · rfl
  · rename_i h1
    rw [if_neg h1] at h
    split
    · rfl
    · rename_i h2
      rw [if_neg h2] at h
      unfold opE at h
      unfold opB
      split
      · rfl
      · rename_i h3
        rw [if_neg h3] at h
        cases hx : opX v p.k (besd p i) (hOf (rdB d i)) with
        | none => rfl
        | some t => rw [hx] at h; exact absurd rfl h
theorem Rm.free {s : Sp} {n : Nat} {L : List Bb} (h : Rm s n L) (hn : 2 ≤ n) : s.free = (frs n L).length := by
  have hT : s.T = (List.range n).map fun i : Nat => decide (i < 2) || L.any fun x => decide (x.b = (i : Int)) := by
    apply List.ext_getElem?
    intro i
    rw [List.getElem?_map]
    by_cases hi : i < n
    · have h1 := h.tk i hi
      rw [List.getElem?_range hi]
      have hl : i < s.T.length := by rw [h.len]; exact hi
      rw [List.getElem?_eq_getElem hl] at h1 ⊢
      show some _ = some _
      congr 1
      rw [Bool.eq_iff_iff]
      have h2 : s.T[i] = true ↔ i < 2 ∨ ∃ x ∈ L, x.b = (i : Int) := ⟨fun e => h1.1 (by rw [e]), fun e => by have := h1.2 e; injection this⟩
      rw [h2]
      simp
    · rw [List.getElem?_eq_none (by rw [h.len]; omega), List.getElem?_eq_none (by simp; omega)]
      rfl
  unfold Sp.free
  rw [hT, List.count_eq_countP, List.countP_map, List.countP_eq_length_filter]
  have e : List.range n = List.range' 0 2 ++ List.range' 2 (n - 2) := by
    rw [List.range_eq_range', List.range'_append_1]
    congr 1
    omega
  rw [e, List.filter_append, List.length_append]
  have e1 : (List.filter ((fun x => x == false) ∘ fun i : Nat => decide (i < 2) || L.any fun x => decide (x.b = (i : Int))) (List.range' 0 2)).length = 0 := by
    rw [List.length_eq_zero_iff, List.filter_eq_nil_iff]
    intro i hi
    rw [List.mem_range'_1] at hi
    simp
    omega
  rw [e1, Nat.zero_add]
  unfold frs
  congr 1
  apply List.filter_congr
  intro i hi
  rw [List.mem_range'_1] at hi
  rw [Bool.eq_iff_iff]
  simp
  omega
theorem exec_loadP {w : World} {b : Nat} {t : TypeId} {op : Oper} {a : Act} {y : Bb} (x : Operand) (ho : op.op = .load 88 x) (hx : a.eval x = .pointer (some ⟨b, 5, none⟩)) (h : Blk w b t #[.string (str (y).nm), .int .i64 (y).k.t, .int .i64 (y).k.c, .int .i64 (y).k.e, .int .i64 (y).b, .int .i64 (y).p.k.t, .int .i64 (y).p.k.c, .int .i64 (y).p.k.e, .int .i64 (y).p.id, .int .i64 (y).p.ver, .int .i64 (y).sz]) : (execOp a.eval op).run Tryz.prog w = .ok (.value (.agg #[.int .i64 (y.p).k.t, .int .i64 (y.p).k.c, .int .i64 (y.p).k.e, .int .i64 (y.p).id, .int .i64 (y.p).ver])) w :=
  exec_load_mid 88 x ho b 5 hx [.int .i64 y.p.k.t, .int .i64 y.p.k.c, .int .i64 y.p.k.e, .int .i64 y.p.id, .int .i64 y.p.ver] _ (fun j u hu => by
    have hj := (List.getElem?_eq_some_iff.1 hu).1
    have := blkB_range (l := y.cells) h (5 + j) u (by
      have e : y.cells = [.string (str y.nm), .int .i64 y.k.t, .int .i64 y.k.c, .int .i64 y.k.e, .int .i64 y.b] ++ ([.int .i64 y.p.k.t, .int .i64 y.p.k.c, .int .i64 y.p.k.e, .int .i64 y.p.id, .int .i64 y.p.ver] ++ [.int .i64 y.sz]) := rfl
      rw [e, List.getElem?_append_right (by simp), List.getElem?_append_left (by simp at hj ⊢; omega)]
      simpa using hu)
    rwa [Nat.zero_add] at this) Tryz.underlying88 rfl (by kernel_rfl)
section
variable {C : Ob → Ob} {w wr : World} {gd gv gc gs n : Nat} {d : St} {v : Va} {c : Ce} {L : List Bb} {dn : Bool} {X : Nat → Prop}
set_option maxRecDepth 100000 in
theorem sfree_on (hC : Foc C) (h : On w (C (StO gs gd gv gc n L dn)) wr X) (hn : 2 ≤ n) :
    Calls Tryz.prog 31 #[.pointer (some ⟨gs, 0, none⟩)] wr fun e w' => e = .returned (.int .i64 ((frs n L).length : Int)) ∧ wr = w' := by
  obtain ⟨mb, rb, k, s, hS⟩ := so_at hC h
  obtain ⟨c0, c1, c2, c3, c4, c5⟩ := hS.cells
  have hf := free_c wr rb k s hS.room
  have HE := hid (hS.rm.free hn)
  clear hS h hC
  go_enter Tryz.func31, Tryz.ntmps31
  go_wp2_with fail
  refine hf.mono ?_
  rintro e w' ⟨rfl, rfl⟩
  rw [HE.out]
  go_wp2
  go_ret
  exact ⟨rfl, rfl⟩
set_option maxRecDepth 100000 in
theorem slist_on (hC : Foc C) (h : On w (C (StO gs gd gv gc n L dn)) wr X) (hr : L.Pairwise risen) (hl : L.length ≤ 1000000) (hnm : ∀ x ∈ L, x.nm.length ≤ maxLen) :
    Calls Tryz.prog 30 #[.pointer (some ⟨gs, 0, none⟩)] wr fun e w' => ∃ A k, e = .returned (.slice A L.length k) ∧ BRow 90 w' wr.heap.size A k L ∧ Below wr.heap.size wr w' := by
  obtain ⟨mb, rb, k, s, hS⟩ := so_at hC h
  obtain ⟨c0, c1, c2, c3, c4, c5⟩ := hS.cells
  have hb := byNames_c mb L wr hS.map hr hl hnm
  clear hS h hC hl hr hnm
  generalize L.length = m at *
  go_enter Tryz.func30, Tryz.ntmps30
  go_wp2_with fail
  refine hb.mono ?_
  rintro e w' ⟨A, q, rfl, h1, h2⟩
  have H1 := hid h1
  have H2 := hid h2
  clear hb h1 h2
  go_wp2
  go_ret
  exact ⟨A, q, rfl, H1.out, H2.out⟩
set_option maxRecDepth 100000 in
set_option maxHeartbeats 4000000 in
theorem sget_on (hC : Foc C) (hOk : ∀ P : Ob, P.Ok → (C P).Ok) (h : On w (C (TS gd d gv v gc c gs n L dn)) wr X) (nm : List UInt8) (hnm : nm.length ≤ maxLen) (hw : ∀ x ∈ L, x.wf ∧ x.p.k = x.k) :
    Calls Tryz.prog 35 #[.pointer (some ⟨gs, 0, none⟩), .string (str nm)] wr fun e w' => ∃ A m k, e = .returned (.tuple #[.slice A m k, .int .i64 (sgE d v L nm)]) ∧ w'.ownsRow wr.heap.size 5 1 (.slice A m k) m (bs (sgB d v L nm)) ∧ m ≤ 65536 ∧ Below wr.heap.size wr w' := by
  obtain ⟨mb, rb, k, s, hS⟩ := so_at (hC.comp (ts_s gd d gv v gc c)) h
  obtain ⟨c0, c1, c2, c3, c4, c5⟩ := hS.cells
  have hlook := hS.map.look hnm
  have HSB := hid hS
  have HH := hid h
  have HOK := hid hOk
  have HW := hid hw
  have hE : sgE d v L nm = match fnd L nm with | none => 90 | some x => if prE d v x.b x.p = 0 ∧ ((prB d v x.b x.p).length : Int) ≠ x.sz then 51 else prE d v x.b x.p := rfl
  have hB : sgB d v L nm = match fnd L nm with | none => [] | some x => if prE d v x.b x.p = 0 ∧ ((prB d v x.b x.p).length : Int) ≠ x.sz then [] else prB d v x.b x.p := rfl
  clear hS h hOk hw hnm
  cases hf : fnd L nm with
  | none =>
    rw [hf] at hE hB
    have HE := hid hE
    have HB := hid hB
    have hl2 : ∃ x : Bb, (Instr.lookup 122 (.map (some mb)) (.string (str nm)) true).run Tryz.prog wr = .ok (.tuple #[(.agg #[.string (str (x).nm), .int .i64 (x).k.t, .int .i64 (x).k.c, .int .i64 (x).k.e, .int .i64 (x).b, .int .i64 (x).p.k.t, .int .i64 (x).p.k.c, .int .i64 (x).p.k.e, .int .i64 (x).p.id, .int .i64 (x).p.ver, .int .i64 (x).sz]), .bool false]) wr := ⟨getB L nm, by rw [hlook]; unfold isB; rw [hf]; rfl⟩
    obtain ⟨x, hl3⟩ := hl2
    have hb2 : Hid (Below wr.heap.size wr (wr.alloc (.cells #[.string (str (x).nm), .int .i64 (x).k.t, .int .i64 (x).k.c, .int .i64 (x).k.e, .int .i64 (x).b, .int .i64 (x).p.k.t, .int .i64 (x).p.k.c, .int .i64 (x).p.k.e, .int .i64 (x).p.id, .int .i64 (x).p.ver, .int .i64 (x).sz] 90))) := hid ((Below.refl _ _).alloc (Nat.le_refl _) _)
    clear hE hB hf hlook
    go_enter Tryz.func35, Tryz.ntmps35
    go_wp2
    go_ret2
    exact ⟨none, 0, 0, by rw [HE.out]; rfl, by rw [HB.out]; exact own_nilrow _ _ _ _, by omega, hb2.out⟩
  | some x =>
    rw [hf] at hE hB
    have HE := hid hE
    have HB := hid hB
    have hl3 : (Instr.lookup 122 (.map (some mb)) (.string (str nm)) true).run Tryz.prog wr = .ok (.tuple #[(.agg #[.string (str (x).nm), .int .i64 (x).k.t, .int .i64 (x).k.c, .int .i64 (x).k.e, .int .i64 (x).b, .int .i64 (x).p.k.t, .int .i64 (x).p.k.c, .int .i64 (x).p.k.e, .int .i64 (x).p.id, .int .i64 (x).p.ver, .int .i64 (x).sz]), .bool true]) wr := by rw [hlook]; unfold isB getB; rw [hf]; rfl
    have HXW := hid (HW.out x (fnd_some hf).1)
    have hb2 : Below wr.heap.size wr (wr.alloc (.cells #[.string (str (x).nm), .int .i64 (x).k.t, .int .i64 (x).k.c, .int .i64 (x).k.e, .int .i64 (x).b, .int .i64 (x).p.k.t, .int .i64 (x).p.k.c, .int .i64 (x).p.k.e, .int .i64 (x).p.id, .int .i64 (x).p.ver, .int .i64 (x).sz] 90)) := (Below.refl _ _).alloc (Nat.le_refl _) _
    have HB2 := hid hb2
    have HK2 := hid (Blk.new wr 90 #[.string (str (x).nm), .int .i64 (x).k.t, .int .i64 (x).k.c, .int .i64 (x).k.e, .int .i64 (x).b, .int .i64 (x).p.k.t, .int .i64 (x).p.k.c, .int .i64 (x).p.k.e, .int .i64 (x).p.id, .int .i64 (x).p.ver, .int .i64 (x).sz])
    have HS2 := hid (HSB.out.bel hb2)
    have H2 := hid (HH.out.go (HOK.out _ (TS.ok _ _ _ _ _ _ _ _ _ _)) hb2)
    clear hE hB hf hlook hb2 HSB HH HW
    go_enter Tryz.func35, Tryz.ntmps35
    go_wp2_with fail
    clear c0 c1 c2 c3 c4 c5 hl3
    have HB3 : Hid (Below wr.heap.size wr (wr.alloc (.cells #[.string (str (x).nm), .int .i64 (x).k.t, .int .i64 (x).k.c, .int .i64 (x).k.e, .int .i64 (x).b, .int .i64 (x).p.k.t, .int .i64 (x).p.k.c, .int .i64 (x).p.k.e, .int .i64 (x).p.id, .int .i64 (x).p.ver, .int .i64 (x).sz] 90)).drew) := hid HB2.out.drew
    have HK3 : Hid (Blk (wr.alloc (.cells #[.string (str (x).nm), .int .i64 (x).k.t, .int .i64 (x).k.c, .int .i64 (x).k.e, .int .i64 (x).b, .int .i64 (x).p.k.t, .int .i64 (x).p.k.c, .int .i64 (x).p.k.e, .int .i64 (x).p.id, .int .i64 (x).p.ver, .int .i64 (x).sz] 90)).drew wr.heap.size 90 #[.string (str (x).nm), .int .i64 (x).k.t, .int .i64 (x).k.c, .int .i64 (x).k.e, .int .i64 (x).b, .int .i64 (x).p.k.t, .int .i64 (x).p.k.c, .int .i64 (x).p.k.e, .int .i64 (x).p.id, .int .i64 (x).p.ver, .int .i64 (x).sz]) := hid HK2.out
    have HS3 : Hid (SoB (wr.alloc (.cells #[.string (str (x).nm), .int .i64 (x).k.t, .int .i64 (x).k.c, .int .i64 (x).k.e, .int .i64 (x).b, .int .i64 (x).p.k.t, .int .i64 (x).p.k.c, .int .i64 (x).p.k.e, .int .i64 (x).p.id, .int .i64 (x).p.ver, .int .i64 (x).sz] 90)).drew gs gd gv gc n L dn mb rb k s) := hid (HS2.out.keep rfl rfl rfl rfl)
    have H3 := hid (H2.out.go (HOK.out _ (TS.ok _ _ _ _ _ _ _ _ _ _)) (wr' := (wr.alloc (.cells #[.string (str (x).nm), .int .i64 (x).k.t, .int .i64 (x).k.c, .int .i64 (x).k.e, .int .i64 (x).b, .int .i64 (x).p.k.t, .int .i64 (x).p.k.c, .int .i64 (x).p.k.e, .int .i64 (x).p.id, .int .i64 (x).p.ver, .int .i64 (x).sz] 90)).drew) ((Below.refl _ _).drew))
    clear HB2 HK2 HS2 H2
    generalize hbx : wr.heap.size = bx at *
    have HBXE := hid hbx
    clear hbx
    refine wp_region_held_drew (S := fun wx => wx.cell? ⟨gs, 0, none⟩ = some (.pointer (some ⟨gd, 0, none⟩)) ∧ wx.cell? ⟨gs, 1, none⟩ = some (.pointer (some ⟨gv, 0, none⟩)) ∧ Blk wx bx 90 #[.string (str (x).nm), .int .i64 (x).k.t, .int .i64 (x).k.c, .int .i64 (x).k.e, .int .i64 (x).b, .int .i64 (x).p.k.t, .int .i64 (x).p.k.c, .int .i64 (x).p.k.e, .int .i64 (x).p.id, .int .i64 (x).p.ver, .int .i64 (x).sz]) (by kernel_rfl) ⟨HS3.out.cells.1, HS3.out.cells.2.1, HK3.out⟩ (fun HS => ?_)
    generalize (wr.alloc (.cells #[.string (str (x).nm), .int .i64 (x).k.t, .int .i64 (x).k.c, .int .i64 (x).k.e, .int .i64 (x).b, .int .i64 (x).p.k.t, .int .i64 (x).p.k.c, .int .i64 (x).p.k.e, .int .i64 (x).p.id, .int .i64 (x).p.ver, .int .i64 (x).sz] 90)).drew = w3 at *
    refine wpAnyH_take (i := 0) (oi := ?oi0) (v := ?v0) ?hi0 (by kernel_rfl) (by kernel_rfl) (by kernel_rfl) ?hQ0 ?hy0 HS ?rest0
    case hi0 => simp only [List.getElem?_toArray, List.getElem?_cons_zero]; exact rfl
    case hQ0 => exact fun _ _ _ h => h
    case hy0 =>
      refine Or.inl ⟨by rfl, ?_⟩
      intro wS hSw
      have y0 := hSw.1
      have y1 := hSw.2.1
      go_simp
      try with_reducible rfl
    try simp only [Act.put, List.setIfInBounds_toArray, List.set_cons_zero, List.set_cons_succ]
    refine wpAnyH_take (i := 1) (oi := ?oi1) (v := ?v1) ?hi1 (by kernel_rfl) (by kernel_rfl) (by kernel_rfl) ?hQ1 ?hy1 HS ?rest1
    case hi1 => simp only [List.getElem?_toArray, List.getElem?_cons_succ, List.getElem?_cons_zero]; exact rfl
    case hQ1 => exact fun _ _ _ h => h
    case hy1 =>
      refine Or.inl ⟨by rfl, ?_⟩
      intro wS hSw
      have y0 := hSw.1
      have y1 := hSw.2.1
      go_simp
      try with_reducible rfl
    try simp only [Act.put, List.setIfInBounds_toArray, List.set_cons_zero, List.set_cons_succ]
    refine wpAnyH_take (i := 2) (oi := ?oi2) (v := ?v2) ?hi2 (by kernel_rfl) (by kernel_rfl) (by kernel_rfl) ?hQ2 ?hy2 HS ?rest2
    case hi2 => simp only [List.getElem?_toArray, List.getElem?_cons_succ, List.getElem?_cons_zero]; exact rfl
    case hQ2 => exact fun _ _ _ h => h
    case hy2 =>
      refine Or.inl ⟨by rfl, ?_⟩
      intro wS hSw
      have y0 := hSw.1
      have y1 := hSw.2.1
      go_simp
      try with_reducible rfl
    try simp only [Act.put, List.setIfInBounds_toArray, List.set_cons_zero, List.set_cons_succ]
    refine wpAnyH_take (i := 3) (oi := ?oi3) (v := ?v3) ?hi3 (by kernel_rfl) (by kernel_rfl) (by kernel_rfl) ?hQ3 ?hy3 HS ?rest3
    case hi3 => simp only [List.getElem?_toArray, List.getElem?_cons_succ, List.getElem?_cons_zero]; exact rfl
    case hQ3 => exact fun _ _ _ h => h
    case hy3 =>
      refine Or.inl ⟨by rfl, ?_⟩
      intro wS hSw
      have y0 := hSw.1
      have y1 := hSw.2.1
      go_simp
      try with_reducible rfl
    try simp only [Act.put, List.setIfInBounds_toArray, List.set_cons_zero, List.set_cons_succ]
    refine wpAnyH_take (i := 4) (oi := ?oi4) (v := ?v4) ?hi4 (by kernel_rfl) (by kernel_rfl) (by kernel_rfl) ?hQ4 ?hy4 HS ?rest4
    case hi4 => simp only [List.getElem?_toArray, List.getElem?_cons_succ, List.getElem?_cons_zero]; exact rfl
    case hQ4 => exact fun _ _ _ h => h
    case hy4 =>
      refine Or.inl ⟨by rfl, ?_⟩
      intro wS hSw
      have y0 := hSw.1
      have y1 := hSw.2.1
      go_simp
      try with_reducible rfl
    try simp only [Act.put, List.setIfInBounds_toArray, List.set_cons_zero, List.set_cons_succ]
    refine wpAnyH_take (i := 5) (oi := ?oi5) (v := ?v5) ?hi5 (by kernel_rfl) (by kernel_rfl) (by kernel_rfl) ?hQ5 ?hy5 HS ?rest5
    case hi5 => simp only [List.getElem?_toArray, List.getElem?_cons_succ, List.getElem?_cons_zero]; exact rfl
    case hQ5 => exact fun _ _ _ h => h
    case hy5 =>
      refine Or.inl ⟨by rfl, ?_⟩
      intro wS hSw
      have y0 := hSw.1
      have y1 := hSw.2.1
      go_simp
      try with_reducible rfl
    try simp only [Act.put, List.setIfInBounds_toArray, List.set_cons_zero, List.set_cons_succ]
    refine wpAnyH_take (i := 6) (oi := ?oi6) (v := ?v6) ?hi6 (by kernel_rfl) (by kernel_rfl) (by kernel_rfl) ?hQ6 ?hy6 HS ?rest6
    case hi6 => simp only [List.getElem?_toArray, List.getElem?_cons_succ, List.getElem?_cons_zero]; exact rfl
    case hQ6 => exact fun _ _ _ h => h
    case hy6 =>
      refine Or.inl ⟨by rfl, ?_⟩
      intro wS hSw
      have y0 := hSw.1
      have y1 := hSw.2.1
      go_simp
      try with_reducible rfl
    try simp only [Act.put, List.setIfInBounds_toArray, List.set_cons_zero, List.set_cons_succ]
    refine wpAnyH_take (i := 7) (oi := ?oi7) (v := ?v7) ?hi7 (by kernel_rfl) (by kernel_rfl) (by kernel_rfl) ?hQ7 ?hy7 HS ?rest7
    case hi7 => simp only [List.getElem?_toArray, List.getElem?_cons_succ, List.getElem?_cons_zero]; exact rfl
    case hQ7 => exact fun _ _ _ h => h
    case hy7 =>
      refine Or.inl ⟨by rfl, ?_⟩
      intro wS hSw
      have y0 := hSw.1
      have y1 := hSw.2.1
      go_simp
      try with_reducible rfl
    try simp only [Act.put, List.setIfInBounds_toArray, List.set_cons_zero, List.set_cons_succ]
    refine wpAnyH_take (i := 8) (oi := ?oi8) (v := ?v8) ?hi8 (by kernel_rfl) (by kernel_rfl) (by kernel_rfl) ?hQ8 ?hy8 HS ?rest8
    case hi8 => simp only [List.getElem?_toArray, List.getElem?_cons_succ, List.getElem?_cons_zero]; exact rfl
    case hQ8 => exact fun _ _ _ h => h
    case hy8 =>
      refine Or.inl ⟨by rfl, ?_⟩
      intro wS hSw
      have y0 := hSw.1
      have y1 := hSw.2.1
      go_simp
      try with_reducible rfl
    try simp only [Act.put, List.setIfInBounds_toArray, List.set_cons_zero, List.set_cons_succ]
    refine wpAnyH_take (i := 9) (oi := ?oi9) (v := ?v9) ?hi9 (by kernel_rfl) (by kernel_rfl) (by kernel_rfl) ?hQ9 ?hy9 HS ?rest9
    case hi9 => simp only [List.getElem?_toArray, List.getElem?_cons_succ, List.getElem?_cons_zero]; exact rfl
    case hQ9 => exact fun _ _ _ h => h
    case hy9 =>
      refine Or.inl ⟨by rfl, ?_⟩
      intro wS hSw
      have y4 := (bbB_cells (x := x) hSw.2.2).2.2.2.2.1
      go_simp
      try with_reducible rfl
    try simp only [Act.put, List.setIfInBounds_toArray, List.set_cons_zero, List.set_cons_succ]
    refine wpAnyH_take (i := 10) (oi := ?oi10) (v := ?v10) ?hi10 (by kernel_rfl) (by kernel_rfl) (by kernel_rfl) ?hQ10 ?hy10 HS ?rest10
    case hi10 => simp only [List.getElem?_toArray, List.getElem?_cons_succ, List.getElem?_cons_zero]; exact rfl
    case hQ10 => exact fun _ _ _ h => h
    case hy10 =>
      refine Or.inl ⟨by rfl, ?_⟩
      intro wS hSw
      go_simp
      try with_reducible rfl
    try simp only [Act.put, List.setIfInBounds_toArray, List.set_cons_zero, List.set_cons_succ]
    refine wpAnyH_take (i := 11) (oi := ?oi11) (v := ?v11) ?hi11 (by kernel_rfl) (by kernel_rfl) (by kernel_rfl) ?hQ11 ?hy11 HS ?rest11
    case hi11 => simp only [List.getElem?_toArray, List.getElem?_cons_succ, List.getElem?_cons_zero]; exact rfl
    case hQ11 => exact fun _ _ _ h => h
    case hy11 =>
      refine Or.inl ⟨by rfl, ?_⟩
      intro wS hSw
      refine Eq.trans (exec_loadP (.tmp 34) ?_ ?_ hSw.2.2) ?_
      all_goals rfl
    try simp only [Act.put, List.setIfInBounds_toArray, List.set_cons_zero, List.set_cons_succ]
    refine wpAnyH_ready (rs := [12]) (by kernel_rfl) (by simp) ?_
    refine AllReadyH.cons (o := ?o12) ?ho12 (fun K hK => ?step12) AllReadyH.nil
    case ho12 => simp only [List.getElem?_toArray, List.getElem?_cons_succ, List.getElem?_cons_zero]; exact rfl
    go_simp
    refine (pread_on (hC.comp ((ts_t gs gd gv gc n L dn).comp (tc_p gc c))) H3.out x.p ⟨by rw [HXW.out.2]; exact HXW.out.1.2.1, HXW.out.1.2.2.2.1, HXW.out.1.2.2.2.2.1⟩ x.b HXW.out.1.2.2.1).mono ?_
    rintro e w4 ⟨A4, m4, k4, rfl, ho4, hm4, hb4⟩
    have HO4 := hid ho4
    have HM4 := hid hm4
    have HB4 := hid (HB3.out.trans (hb4.mono (Nat.le_of_lt HK3.out.lt)))
    have HBX : Hid (bx ≤ w3.heap.size) := hid (Nat.le_of_lt HK3.out.lt)
    have HK4 := hid (HK3.out.keep (hb4.block _ HK3.out.lt))
    have HS4 := hid (HS3.out.bel hb4)
    clear ho4 hm4 hb4 HB3 HK3 HS3 H3
    refine hK.out _ _ ⟨HS4.out.cells.1, HS4.out.cells.2.1, HK4.out⟩ (fun HS => ?_)
    clear hK K
    try simp only [Act.put, List.setIfInBounds_toArray, List.set_cons_zero, List.set_cons_succ]
    refine wpAnyH_take (i := 13) (oi := ?oi13) (v := ?v13) ?hi13 (by kernel_rfl) (by kernel_rfl) (by kernel_rfl) ?hQ13 ?hy13 HS ?rest13
    case hi13 => simp only [List.getElem?_toArray, List.getElem?_cons_succ, List.getElem?_cons_zero]; exact rfl
    case hQ13 => exact fun _ _ _ h => h
    case hy13 =>
      refine Or.inl ⟨by rfl, ?_⟩
      intro wS hSw
      go_simp
      try with_reducible rfl
    try simp only [Act.put, List.setIfInBounds_toArray, List.set_cons_zero, List.set_cons_succ]
    refine wpAnyH_take (i := 14) (oi := ?oi14) (v := ?v14) ?hi14 (by kernel_rfl) (by kernel_rfl) (by kernel_rfl) ?hQ14 ?hy14 HS ?rest14
    case hi14 => simp only [List.getElem?_toArray, List.getElem?_cons_succ, List.getElem?_cons_zero]; exact rfl
    case hQ14 => exact fun _ _ _ h => h
    case hy14 =>
      refine Or.inl ⟨by rfl, ?_⟩
      intro wS hSw
      go_simp
      try with_reducible rfl
    try simp only [Act.put, List.setIfInBounds_toArray, List.set_cons_zero, List.set_cons_succ]
    refine wpAnyH_take (i := 15) (oi := ?oi15) (v := ?v15) ?hi15 (by kernel_rfl) (by kernel_rfl) (by kernel_rfl) ?hQ15 ?hy15 HS ?rest15
    case hi15 => simp only [List.getElem?_toArray, List.getElem?_cons_succ, List.getElem?_cons_zero]; exact rfl
    case hQ15 => exact fun _ _ _ h => h
    case hy15 =>
      refine Or.inl ⟨by rfl, ?_⟩
      intro wS hSw
      go_simp
      try with_reducible rfl
    try simp only [Act.put, List.setIfInBounds_toArray, List.set_cons_zero, List.set_cons_succ]
    refine wpAnyH_take (i := 16) (oi := ?oi16) (v := ?v16) ?hi16 (by kernel_rfl) (by kernel_rfl) (by kernel_rfl) ?hQ16 ?hy16 HS ?rest16
    case hi16 => simp only [List.getElem?_toArray, List.getElem?_cons_succ, List.getElem?_cons_zero]; exact rfl
    case hQ16 => exact fun _ _ _ h => h
    case hy16 =>
      refine Or.inl ⟨by rfl, ?_⟩
      intro wS hSw
      go_simp
      try with_reducible rfl
    try simp only [Act.put, List.setIfInBounds_toArray, List.set_cons_zero, List.set_cons_succ]
    refine wpAnyH_take (i := 17) (oi := ?oi17) (v := ?v17) ?hi17 (by kernel_rfl) (by kernel_rfl) (by kernel_rfl) ?hQ17 ?hy17 HS ?rest17
    case hi17 => simp only [List.getElem?_toArray, List.getElem?_cons_succ, List.getElem?_cons_zero]; exact rfl
    case hQ17 => exact fun _ _ _ h => h
    case hy17 =>
      refine Or.inl ⟨by rfl, ?_⟩
      intro wS hSw
      go_simp
      try with_reducible rfl
    try simp only [Act.put, List.setIfInBounds_toArray, List.set_cons_zero, List.set_cons_succ]
    refine wpAnyH_done (by kernel_rfl) ?_ _
    clear HS
    obtain ⟨x0, x1, x2, x3, x4, x5, x6, x7, x8, x9, x10⟩ := bbB_cells (x := x) HK4.out
    have HPE := hid (@prB_err d v x.b x.p)
    have HLB : Hid ((prB d v x.b x.p).length = m4) := hid (hO2len HO4.out)
    have HO5 := hid (ownsRow_base_a HO4.out HBX.out)
    clear HO4 HK4 HS4
    generalize prE d v x.b x.p = E at *
    generalize prB d v x.b x.p = P at *
    by_cases h0 : E = 0
    · subst h0
      by_cases hs : (m4 : Int) = x.sz
      · have HE2 : Hid (sgE d v L nm = 0) := hid (HE.out.trans (if_neg (fun e => e.2 (by rw [HLB.out]; exact hs))))
        have HB2 : Hid (sgB d v L nm = P) := hid (HB.out.trans (if_neg (fun e => e.2 (by rw [HLB.out]; exact hs))))
        have z1 : ((m4 : Int) == x.sz) = true := by rw [hs]; simp
        have z2 : decide ((m4 : Int) = x.sz) = true := decide_eq_true hs
        have z3 : ((m4 : Int) != x.sz) = false := by rw [bne, z1]; rfl
        clear hs HE HB
        go_wp2
        go_ret2
        exact ⟨A4, m4, k4, by rw [HE2.out]; rfl, by rw [HB2.out, HBXE.out]; exact HO5.out, HM4.out, by rw [HBXE.out]; exact HB4.out⟩
      · have HE2 : Hid (sgE d v L nm = 51) := hid (HE.out.trans (if_pos ⟨rfl, by rw [HLB.out]; exact hs⟩))
        have HB2 : Hid (sgB d v L nm = []) := hid (HB.out.trans (if_pos ⟨rfl, by rw [HLB.out]; exact hs⟩))
        have z1 : ((m4 : Int) == x.sz) = false := beq_eq_false_iff_ne.2 hs
        have z2 : decide ((m4 : Int) = x.sz) = false := decide_eq_false hs
        have z3 : ((m4 : Int) != x.sz) = true := by rw [bne, z1]; rfl
        clear hs HE HB
        go_wp2
        go_ret2
        exact ⟨none, 0, 0, by rw [HE2.out]; rfl, by rw [HB2.out]; exact own_nilrow _ _ _ _, by omega, by rw [HBXE.out]; exact HB4.out⟩
    · have HE2 : Hid (sgE d v L nm = E) := hid (HE.out.trans (if_neg (fun e => h0 e.1)))
      have HB2 : Hid (sgB d v L nm = []) := hid ((HB.out.trans (if_neg (fun e => h0 e.1))).trans (HPE.out h0))
      have y1 : (E == 0) = false := beq_eq_false_iff_ne.2 h0
      have y2 : decide (E = 0) = false := decide_eq_false h0
      have y3 : (E != 0) = true := by rw [bne, y1]; rfl
      clear h0 HE HB
      go_wp2
      go_ret2
      exact ⟨none, 0, 0, by rw [HE2.out]; rfl, by rw [HB2.out]; exact own_nilrow _ _ _ _, by omega, by rw [HBXE.out]; exact HB4.out⟩
end
end Go.Proofs.YtdkbpjkoiegflaaGreat
