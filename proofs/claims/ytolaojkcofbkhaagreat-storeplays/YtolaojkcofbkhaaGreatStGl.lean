import Derived.Test.YtolaojkcofbkhaaGreatStPx
namespace Go.Proofs.YtolaojkcofbkhaaGreat
set_option maxRecDepth 100000
set_option maxHeartbeats 4000000
open Go.RowKit
theorem prB_err {d : St} {v : Va} {i : Int} {p : Pg} (h : prE d v i p ≠ 0) : prB d v i p = [] := by
 unfold prE at h
 unfold prB
 split
 · rfl
 · rename_i h1
   rw [if_neg h1] at h
   split
   · rfl
   · rename_i h2
     rw [if_neg h2] at h
     unfold opE at h
     unfold opB
     split
     · rfl
     · rename_i h3
       rw [if_neg h3] at h
       cases hx : opX v p.k (besd p i) (hOf (rdB d i)) with
       | none => rfl
       | some t => rw [hx] at h; exact absurd rfl h
theorem Rm.free {s : Sp} {n : Nat} {L : List Bb} (h : Rm s n L) (hn : 2 ≤ n) : s.free = (frs n L).length := by
 have hT : s.T = (List.range n).map fun i : Nat => decide (i < 2) || L.any fun x => decide (x.b = (i : Int)) := by
  apply List.ext_getElem?
  intro i
  rw [List.getElem?_map]
  by_cases hi : i < n
  · have h1 := h.tk i hi
    rw [List.getElem?_range hi]
    have hl : i < s.T.length := by rw [h.len]; exact hi
    rw [List.getElem?_eq_getElem hl] at h1 ⊢
    show some _ = some _
    congr 1
    rw [Bool.eq_iff_iff]
    have h2 : s.T[i] = true ↔ i < 2 ∨ ∃ x ∈ L, x.b = (i : Int) := ⟨fun e => h1.1 (by rw [e]), fun e => by have := h1.2 e; injection this⟩
    rw [h2]
    simp
  · rw [List.getElem?_eq_none (by rw [h.len]; omega), List.getElem?_eq_none (by simp; omega)]
    rfl
 unfold Sp.free
 rw [hT, List.count_eq_countP, List.countP_map, List.countP_eq_length_filter]
 have e : List.range n = List.range' 0 2 ++ List.range' 2 (n - 2) := by
  rw [List.range_eq_range', List.range'_append_1]
  congr 1
  omega
 rw [e, List.filter_append, List.length_append]
 have e1 : (List.filter ((fun x => x == false) ∘ fun i : Nat => decide (i < 2) || L.any fun x => decide (x.b = (i : Int))) (List.range' 0 2)).length = 0 := by
  rw [List.length_eq_zero_iff, List.filter_eq_nil_iff]
  intro i hi
  rw [List.mem_range'_1] at hi
  simp
  omega
 rw [e1, Nat.zero_add]
 unfold frs
 congr 1
 apply List.filter_congr
 intro i hi
 rw [List.mem_range'_1] at hi
 rw [Bool.eq_iff_iff]
 simp
 omega
theorem exec_loadP {w : World} {b : Nat} {t : TypeId} {op : Oper} {a : Act} {y : Bb} (x : Operand) (ho : op.op = .load 88 x) (hx : a.eval x = .pointer (some ⟨b, 5, none⟩)) (h : Blk w b t #[.string (str (y).nm), .int .i64 (y).k.t, .int .i64 (y).k.c, .int .i64 (y).k.e, .int .i64 (y).b, .int .i64 (y).p.k.t, .int .i64 (y).p.k.c, .int .i64 (y).p.k.e, .int .i64 (y).p.id, .int .i64 (y).p.ver, .int .i64 (y).sz]) : (execOp a.eval op).run Tryz.prog w = .ok (.value (.agg #[.int .i64 (y.p).k.t, .int .i64 (y.p).k.c, .int .i64 (y.p).k.e, .int .i64 (y.p).id, .int .i64 (y.p).ver])) w :=
 exec_load_mid 88 x ho b 5 hx [.int .i64 y.p.k.t, .int .i64 y.p.k.c, .int .i64 y.p.k.e, .int .i64 y.p.id, .int .i64 y.p.ver] _ (fun j u hu => by
  have hj := (List.getElem?_eq_some_iff.1 hu).1
  have := blkB_range (l := y.cells) h (5 + j) u (by
   have e : y.cells = [.string (str y.nm), .int .i64 y.k.t, .int .i64 y.k.c, .int .i64 y.k.e, .int .i64 y.b] ++ ([.int .i64 y.p.k.t, .int .i64 y.p.k.c, .int .i64 y.p.k.e, .int .i64 y.p.id, .int .i64 y.p.ver] ++ [.int .i64 y.sz]) := rfl
   rw [e, List.getElem?_append_right (by simp), List.getElem?_append_left (by simp at hj ⊢; omega)]
   simpa using hu)
  rwa [Nat.zero_add] at this) Tryz.underlying88 rfl (by kernel_rfl)
section
variable {C : Ob → Ob} {w wr : World} {gd gv gc gs n : Nat} {d : St} {v : Va} {c : Ce} {L : List Bb} {dn : Bool} {X : Nat → Prop}
theorem sfree_on (hC : Foc C) (h : On w (C (StO gs gd gv gc n L dn)) wr X) (hn : 2 ≤ n) :
 Calls Tryz.prog 31 #[.pointer (some ⟨gs, 0, none⟩)] wr fun e w' => e = .returned (.int .i64 ((frs n L).length : Int)) ∧ wr = w' := by
 obtain ⟨mb, rb, k, s, hS⟩ := so_at hC h
 obtain ⟨c0, c1, c2, c3, c4, c5⟩ := hS.cells
 have hf := free_c wr rb k s hS.room
 have HE := hid (hS.rm.free hn)
 clear hS h hC
 go_enter Tryz.func31, Tryz.ntmps31
 go_wp2_with fail
 refine hf.mono ?_
 rintro e w' ⟨rfl, rfl⟩
 rw [HE.out]
 go_wp2
 go_ret
 exact ⟨rfl, rfl⟩
theorem slist_on (hC : Foc C) (h : On w (C (StO gs gd gv gc n L dn)) wr X) (hr : L.Pairwise risen) (hl : L.length ≤ 1000000) (hnm : ∀ x ∈ L, x.nm.length ≤ maxLen) :
 Calls Tryz.prog 30 #[.pointer (some ⟨gs, 0, none⟩)] wr fun e w' => ∃ A k, e = .returned (.slice A L.length k) ∧ BRow 90 w' wr.heap.size A k L ∧ Below wr.heap.size wr w' := by
 obtain ⟨mb, rb, k, s, hS⟩ := so_at hC h
 obtain ⟨c0, c1, c2, c3, c4, c5⟩ := hS.cells
 have hb := byNames_c mb L wr hS.map hr hl hnm
 clear hS h hC hl hr hnm
 generalize L.length = m at *
 go_enter Tryz.func30, Tryz.ntmps30
 go_wp2_with fail
 refine hb.mono ?_
 rintro e w' ⟨A, q, rfl, h1, h2⟩
 have H1 := hid h1
 have H2 := hid h2
 clear hb h1 h2
 go_wp2
 go_ret
 exact ⟨A, q, rfl, H1.out, H2.out⟩
theorem sget_on (hC : Foc C) (hOk : ∀ P : Ob, P.Ok → (C P).Ok) (h : On w (C (TS gd d gv v gc c gs n L dn)) wr X) (nm : List UInt8) (hnm : nm.length ≤ maxLen) (hw : ∀ x ∈ L, x.wf ∧ x.p.k = x.k) :
 Calls Tryz.prog 35 #[.pointer (some ⟨gs, 0, none⟩), .string (str nm)] wr fun e w' => ∃ A m k, e = .returned (.tuple #[.slice A m k, .int .i64 (sgE d v L nm)]) ∧ w'.ownsRow wr.heap.size 5 1 (.slice A m k) m (bs (sgB d v L nm)) ∧ m ≤ 65536 ∧ Below wr.heap.size wr w' := by
 obtain ⟨mb, rb, k, s, hS⟩ := so_at (hC.comp (ts_s gd d gv v gc c)) h
 obtain ⟨c0, c1, c2, c3, c4, c5⟩ := hS.cells
 have hlook := hS.map.look hnm
 have HSB := hid hS
 have HH := hid h
 have HOK := hid hOk
 have HW := hid hw
 have hE : sgE d v L nm = match fnd L nm with | none => 90 | some x => if prE d v x.b x.p = 0 ∧ ((prB d v x.b x.p).length : Int) ≠ x.sz then 51 else prE d v x.b x.p := rfl
 have hB : sgB d v L nm = match fnd L nm with | none => [] | some x => if prE d v x.b x.p = 0 ∧ ((prB d v x.b x.p).length : Int) ≠ x.sz then [] else prB d v x.b x.p := rfl
 clear hS h hOk hw hnm
 cases hf : fnd L nm with
 | none =>
  rw [hf] at hE hB
  have HE := hid hE
  have HB := hid hB
  have hl2 : ∃ x : Bb, (Instr.lookup 122 (.map (some mb)) (.string (str nm)) true).run Tryz.prog wr = .ok (.tuple #[(.agg #[.string (str (x).nm), .int .i64 (x).k.t, .int .i64 (x).k.c, .int .i64 (x).k.e, .int .i64 (x).b, .int .i64 (x).p.k.t, .int .i64 (x).p.k.c, .int .i64 (x).p.k.e, .int .i64 (x).p.id, .int .i64 (x).p.ver, .int .i64 (x).sz]), .bool false]) wr := ⟨getB L nm, by rw [hlook]; unfold isB; rw [hf]; rfl⟩
  obtain ⟨x, hl3⟩ := hl2
  have hb2 : Hid (Below wr.heap.size wr (wr.alloc (.cells #[.string (str (x).nm), .int .i64 (x).k.t, .int .i64 (x).k.c, .int .i64 (x).k.e, .int .i64 (x).b, .int .i64 (x).p.k.t, .int .i64 (x).p.k.c, .int .i64 (x).p.k.e, .int .i64 (x).p.id, .int .i64 (x).p.ver, .int .i64 (x).sz] 90))) := hid ((Below.refl _ _).alloc (nl _) _)
  clear hE hB hf hlook
  go_enter Tryz.func35, Tryz.ntmps35
  go_wp2
  go_ret2
  exact ⟨none, 0, 0, by rw [HE.out]; rfl, by rw [HB.out]; exact own_nilrow _ _ _ _, by omega, hb2.out⟩
 | some x =>
  rw [hf] at hE hB
  have HE := hid hE
  have HB := hid hB
  have hl3 : (Instr.lookup 122 (.map (some mb)) (.string (str nm)) true).run Tryz.prog wr = .ok (.tuple #[(.agg #[.string (str (x).nm), .int .i64 (x).k.t, .int .i64 (x).k.c, .int .i64 (x).k.e, .int .i64 (x).b, .int .i64 (x).p.k.t, .int .i64 (x).p.k.c, .int .i64 (x).p.k.e, .int .i64 (x).p.id, .int .i64 (x).p.ver, .int .i64 (x).sz]), .bool true]) wr := by rw [hlook]; unfold isB getB; rw [hf]; rfl
  have HXW := hid (HW.out x (fnd_some hf).1)
  have hb2 : Below wr.heap.size wr (wr.alloc (.cells #[.string (str (x).nm), .int .i64 (x).k.t, .int .i64 (x).k.c, .int .i64 (x).k.e, .int .i64 (x).b, .int .i64 (x).p.k.t, .int .i64 (x).p.k.c, .int .i64 (x).p.k.e, .int .i64 (x).p.id, .int .i64 (x).p.ver, .int .i64 (x).sz] 90)) := (Below.refl _ _).alloc (nl _) _
  have HB2 := hid hb2
  have HK2 := hid (Blk.new wr 90 #[.string (str (x).nm), .int .i64 (x).k.t, .int .i64 (x).k.c, .int .i64 (x).k.e, .int .i64 (x).b, .int .i64 (x).p.k.t, .int .i64 (x).p.k.c, .int .i64 (x).p.k.e, .int .i64 (x).p.id, .int .i64 (x).p.ver, .int .i64 (x).sz])
  have HS2 := hid (HSB.out.bel hb2)
  have H2 := hid (HH.out.go (HOK.out _ (TS.ok _ _ _ _ _ _ _ _ _ _)) hb2)
  clear hE hB hf hlook hb2 HSB HH HW
  go_enter Tryz.func35, Tryz.ntmps35
  go_wp2_with fail
  clear c0 c1 c2 c3 c4 c5 hl3
  have HB3 : Hid (Below wr.heap.size wr (wr.alloc (.cells #[.string (str (x).nm), .int .i64 (x).k.t, .int .i64 (x).k.c, .int .i64 (x).k.e, .int .i64 (x).b, .int .i64 (x).p.k.t, .int .i64 (x).p.k.c, .int .i64 (x).p.k.e, .int .i64 (x).p.id, .int .i64 (x).p.ver, .int .i64 (x).sz] 90)).drew) := hid HB2.out.drew
  have HK3 : Hid (Blk (wr.alloc (.cells #[.string (str (x).nm), .int .i64 (x).k.t, .int .i64 (x).k.c, .int .i64 (x).k.e, .int .i64 (x).b, .int .i64 (x).p.k.t, .int .i64 (x).p.k.c, .int .i64 (x).p.k.e, .int .i64 (x).p.id, .int .i64 (x).p.ver, .int .i64 (x).sz] 90)).drew wr.heap.size 90 #[.string (str (x).nm), .int .i64 (x).k.t, .int .i64 (x).k.c, .int .i64 (x).k.e, .int .i64 (x).b, .int .i64 (x).p.k.t, .int .i64 (x).p.k.c, .int .i64 (x).p.k.e, .int .i64 (x).p.id, .int .i64 (x).p.ver, .int .i64 (x).sz]) := hid HK2.out
  have HS3 : Hid (SoB (wr.alloc (.cells #[.string (str (x).nm), .int .i64 (x).k.t, .int .i64 (x).k.c, .int .i64 (x).k.e, .int .i64 (x).b, .int .i64 (x).p.k.t, .int .i64 (x).p.k.c, .int .i64 (x).p.k.e, .int .i64 (x).p.id, .int .i64 (x).p.ver, .int .i64 (x).sz] 90)).drew gs gd gv gc n L dn mb rb k s) := hid (HS2.out.keep rfl rfl rfl rfl)
  have H3 := hid (H2.out.go (HOK.out _ (TS.ok _ _ _ _ _ _ _ _ _ _)) (wr' := (wr.alloc (.cells #[.string (str (x).nm), .int .i64 (x).k.t, .int .i64 (x).k.c, .int .i64 (x).k.e, .int .i64 (x).b, .int .i64 (x).p.k.t, .int .i64 (x).p.k.c, .int .i64 (x).p.k.e, .int .i64 (x).p.id, .int .i64 (x).p.ver, .int .i64 (x).sz] 90)).drew) ((Below.refl _ _).drew))
  clear HB2 HK2 HS2 H2
  generalize hbx : wr.heap.size = bx at *
  have HBXE := hid hbx
  clear hbx
  refine wp_region_held_drew (S := fun wx => wx.cell? ⟨gs, 0, none⟩ = some (.pointer (some ⟨gd, 0, none⟩)) ∧ wx.cell? ⟨gs, 1, none⟩ = some (.pointer (some ⟨gv, 0, none⟩)) ∧ Blk wx bx 90 #[.string (str (x).nm), .int .i64 (x).k.t, .int .i64 (x).k.c, .int .i64 (x).k.e, .int .i64 (x).b, .int .i64 (x).p.k.t, .int .i64 (x).p.k.c, .int .i64 (x).p.k.e, .int .i64 (x).p.id, .int .i64 (x).p.ver, .int .i64 (x).sz]) (by kernel_rfl) ⟨HS3.out.cells.1, HS3.out.cells.2.1, HK3.out⟩ (fun HS => ?_)
  generalize (wr.alloc (.cells #[.string (str (x).nm), .int .i64 (x).k.t, .int .i64 (x).k.c, .int .i64 (x).k.e, .int .i64 (x).b, .int .i64 (x).p.k.t, .int .i64 (x).p.k.c, .int .i64 (x).p.k.e, .int .i64 (x).p.id, .int .i64 (x).p.ver, .int .i64 (x).sz] 90)).drew = w3 at *
  refine qT 0 ?v0 ?y0 HS ?r0
  case y0 =>
   refine qI fun wS hSw => ?_
   have y0 := hSw.1
   have y1 := hSw.2.1
   go_simp
   try with_reducible rfl
  try simp only [Act.put, zA]
  refine qT 1 ?v1 ?y1 HS ?r1
  case y1 =>
   refine qI fun wS hSw => ?_
   have y0 := hSw.1
   have y1 := hSw.2.1
   go_simp
   try with_reducible rfl
  try simp only [Act.put, zA]
  refine qT 2 ?v2 ?y2 HS ?r2
  case y2 =>
   refine qI fun wS hSw => ?_
   have y0 := hSw.1
   have y1 := hSw.2.1
   go_simp
   try with_reducible rfl
  try simp only [Act.put, zA]
  refine qT 3 ?v3 ?y3 HS ?r3
  case y3 =>
   refine qI fun wS hSw => ?_
   have y0 := hSw.1
   have y1 := hSw.2.1
   go_simp
   try with_reducible rfl
  try simp only [Act.put, zA]
  refine qT 4 ?v4 ?y4 HS ?r4
  case y4 =>
   refine qI fun wS hSw => ?_
   have y0 := hSw.1
   have y1 := hSw.2.1
   go_simp
   try with_reducible rfl
  try simp only [Act.put, zA]
  refine qT 5 ?v5 ?y5 HS ?r5
  case y5 =>
   refine qI fun wS hSw => ?_
   have y0 := hSw.1
   have y1 := hSw.2.1
   go_simp
   try with_reducible rfl
  try simp only [Act.put, zA]
  refine qT 6 ?v6 ?y6 HS ?r6
  case y6 =>
   refine qI fun wS hSw => ?_
   have y0 := hSw.1
   have y1 := hSw.2.1
   go_simp
   try with_reducible rfl
  try simp only [Act.put, zA]
  refine qT 7 ?v7 ?y7 HS ?r7
  case y7 =>
   refine qI fun wS hSw => ?_
   have y0 := hSw.1
   have y1 := hSw.2.1
   go_simp
   try with_reducible rfl
  try simp only [Act.put, zA]
  refine qT 8 ?v8 ?y8 HS ?r8
  case y8 =>
   refine qI fun wS hSw => ?_
   have y0 := hSw.1
   have y1 := hSw.2.1
   go_simp
   try with_reducible rfl
  try simp only [Act.put, zA]
  refine qT 9 ?v9 ?y9 HS ?r9
  case y9 =>
   refine qI fun wS hSw => ?_
   have y4 := (bbB_cells (x := x) hSw.2.2).2.2.2.2.1
   go_simp
   try with_reducible rfl
  try simp only [Act.put, zA]
  refine qT 10 ?v10 ?y10 HS ?r10
  case y10 => refine qI fun wS hSw => ?_; go_simp; try with_reducible rfl
  try simp only [Act.put, zA]
  refine qT 11 ?v11 ?y11 HS ?r11
  case y11 =>
   refine qI fun wS hSw => ?_
   refine Eq.trans (exec_loadP (.tmp 34) ?_ ?_ hSw.2.2) ?_
   all_goals rfl
  try simp only [Act.put, zA]
  refine qR 12 fun K hK => ?_
  go_simp
  refine (pread_on (hC.comp ((ts_t gs gd gv gc n L dn).comp (tc_p gc c))) H3.out x.p ⟨by rw [HXW.out.2]; exact HXW.out.1.2.1, HXW.out.1.2.2.2.1, HXW.out.1.2.2.2.2.1⟩ x.b HXW.out.1.2.2.1).mono ?_
  rintro e w4 ⟨A4, m4, k4, rfl, ho4, hm4, hb4⟩
  have HO4 := hid ho4
  have HM4 := hid hm4
  have HB4 := hid (HB3.out.trans (hb4.mono (Nat.le_of_lt HK3.out.lt)))
  have HBX : Hid (bx ≤ w3.heap.size) := hid (Nat.le_of_lt HK3.out.lt)
  have HK4 := hid (HK3.out.keep (hb4.block _ HK3.out.lt))
  have HS4 := hid (HS3.out.bel hb4)
  clear ho4 hm4 hb4 HB3 HK3 HS3 H3
  refine hK.out _ _ ⟨HS4.out.cells.1, HS4.out.cells.2.1, HK4.out⟩ (fun HS => ?_)
  clear hK K
  try simp only [Act.put, zA]
  refine qT 13 ?v13 ?y13 HS ?r13
  case y13 => refine qI fun wS hSw => ?_; go_simp; try with_reducible rfl
  try simp only [Act.put, zA]
  refine qT 14 ?v14 ?y14 HS ?r14
  case y14 => refine qI fun wS hSw => ?_; go_simp; try with_reducible rfl
  try simp only [Act.put, zA]
  refine qT 15 ?v15 ?y15 HS ?r15
  case y15 => refine qI fun wS hSw => ?_; go_simp; try with_reducible rfl
  try simp only [Act.put, zA]
  refine qT 16 ?v16 ?y16 HS ?r16
  case y16 => refine qI fun wS hSw => ?_; go_simp; try with_reducible rfl
  try simp only [Act.put, zA]
  refine qT 17 ?v17 ?y17 HS ?r17
  case y17 => refine qI fun wS hSw => ?_; go_simp; try with_reducible rfl
  try simp only [Act.put, zA]
  refine qD ?_
  clear HS
  obtain ⟨x0, x1, x2, x3, x4, x5, x6, x7, x8, x9, x10⟩ := bbB_cells (x := x) HK4.out
  have HPE := hid (@prB_err d v x.b x.p)
  have HLB : Hid ((prB d v x.b x.p).length = m4) := hid (hO2len HO4.out)
  have HO5 := hid (ownsRow_base_a HO4.out HBX.out)
  clear HO4 HK4 HS4
  generalize prE d v x.b x.p = E at *
  generalize prB d v x.b x.p = P at *
  by_cases h0 : E = 0
  · subst h0
    by_cases hs : (m4 : Int) = x.sz
    · have HE2 : Hid (sgE d v L nm = 0) := hid (HE.out.trans (if_neg (fun e => e.2 (by rw [HLB.out]; exact hs))))
      have HB2 : Hid (sgB d v L nm = P) := hid (HB.out.trans (if_neg (fun e => e.2 (by rw [HLB.out]; exact hs))))
      have z1 : ((m4 : Int) == x.sz) = true := by rw [hs]; simp
      have z2 : decide ((m4 : Int) = x.sz) = true := decide_eq_true hs
      have z3 : ((m4 : Int) != x.sz) = false := by rw [bne, z1]; rfl
      clear hs HE HB
      go_wp2
      go_ret2
      exact ⟨A4, m4, k4, by rw [HE2.out]; rfl, by rw [HB2.out, HBXE.out]; exact HO5.out, HM4.out, by rw [HBXE.out]; exact HB4.out⟩
    · have HE2 : Hid (sgE d v L nm = 51) := hid (HE.out.trans (if_pos ⟨rfl, by rw [HLB.out]; exact hs⟩))
      have HB2 : Hid (sgB d v L nm = []) := hid (HB.out.trans (if_pos ⟨rfl, by rw [HLB.out]; exact hs⟩))
      have z1 : ((m4 : Int) == x.sz) = false := beq_eq_false_iff_ne.2 hs
      have z2 : decide ((m4 : Int) = x.sz) = false := decide_eq_false hs
      have z3 : ((m4 : Int) != x.sz) = true := by rw [bne, z1]; rfl
      clear hs HE HB
      go_wp2
      go_ret2
      exact ⟨none, 0, 0, by rw [HE2.out]; rfl, by rw [HB2.out]; exact own_nilrow _ _ _ _, by omega, by rw [HBXE.out]; exact HB4.out⟩
  · have HE2 : Hid (sgE d v L nm = E) := hid (HE.out.trans (if_neg (fun e => h0 e.1)))
    have HB2 : Hid (sgB d v L nm = []) := hid ((HB.out.trans (if_neg (fun e => h0 e.1))).trans (HPE.out h0))
    have y1 : (E == 0) = false := beq_eq_false_iff_ne.2 h0
    have y2 : decide (E = 0) = false := decide_eq_false h0
    have y3 : (E != 0) = true := by rw [bne, y1]; rfl
    clear h0 HE HB
    go_wp2
    go_ret2
    exact ⟨none, 0, 0, by rw [HE2.out]; rfl, by rw [HB2.out]; exact own_nilrow _ _ _ _, by omega, by rw [HBXE.out]; exact HB4.out⟩
end
structure Hc where
 nm : List UInt8
 k : Ky
 A : Option Addr
 n : Nat
 c : Nat
 body : List UInt8
 dr : Bool
def Hc.cells (h : Hc) : List Value := [.string (str h.nm), .int .i64 h.k.t, .int .i64 h.k.c, .int .i64 h.k.e, .slice h.A h.n h.c, .bool h.dr]
def Hc.ch (h : Hc) : Ch := ⟨h.nm, h.k, h.body, h.dr⟩
structure HcOk (U : Nat → Prop) (w : World) (h : Hc) : Prop where
 b : Bts w 0 w.heap.size h.A h.n h.body
 u : 0 < h.n → ∀ q, h.A.map (·.block) = some q → U q
 k : h.k.wf
 nm : h.nm.length ≤ maxLen
 n : h.n ≤ 9223372036854775807
structure ChOn (U : Nat → Prop) (w : World) (A : Option Addr) (n : Nat) (l : List Hc) : Prop where
 len : l.length = n
 el : ∀ j (h : j < l.length), ∃ b off, A = some ⟨b, off, none⟩ ∧ U b ∧ b < w.heap.size ∧ w.rangeAt b (off + j * 6) l[j].cells ∧ HcOk U w l[j]
section
variable {U : Nat → Prop} {w w' : World} {A : Option Addr} {n : Nat} {l : List Hc}
theorem ChOn.at_ (h : ChOn U w A n l) {j : Nat} (hj : j < l.length) : ∃ b off, A = some ⟨b, off, none⟩ ∧ U b ∧ b < w.heap.size ∧ w.rangeAt b (off + j * 6) l[j].cells ∧ HcOk U w l[j] := h.el j hj
theorem HcOk.keep {h : Hc} (hh : HcOk U w h) (hs : w.heap.size ≤ w'.heap.size) (hk : ∀ b, U b → b < w.heap.size → w'.heap[b]? = w.heap[b]?) : HcOk U w' h := by
 refine ⟨?_, hh.u, hh.k, hh.nm, hh.n⟩
 refine ⟨hh.b.1, fun hn => ?_⟩
 obtain ⟨b, off, e, h1, h2, hc⟩ := hh.b.2 hn
 exact ⟨b, off, e, h1, Nat.lt_of_lt_of_le h2 hs, fun j u hu => (World.cell?_of_block (a := ⟨b, off + j, none⟩) (hk b (hh.u hn b (by rw [e]; rfl)) h2)).trans (hc j u hu)⟩
theorem ChOn.keep (h : ChOn U w A n l) (hs : w.heap.size ≤ w'.heap.size) (hk : ∀ b, U b → b < w.heap.size → w'.heap[b]? = w.heap[b]?) : ChOn U w' A n l :=
 ⟨h.len, fun j hj => by
  obtain ⟨b, off, h1, h2, h3, h4, h5⟩ := h.el j hj
  exact ⟨b, off, h1, h2, Nat.lt_of_lt_of_le h3 hs, rangeAt_keep h4 (hk b h2 h3), h5.keep hs hk⟩⟩
theorem ChOn.bel (h : ChOn U w A n l) (hb : Below w.heap.size w w') : ChOn U w' A n l := h.keep hb.size fun b _ hq => hb.block b hq
end
theorem range6 {w : World} {b o : Nat} {x : Hc} (h : w.rangeAt b o x.cells) : w.cell? ⟨b, o, none⟩ = some (.string (str x.nm)) ∧ w.cell? ⟨b, o + 1, none⟩ = some (.int .i64 x.k.t) ∧ w.cell? ⟨b, o + 2, none⟩ = some (.int .i64 x.k.c) ∧ w.cell? ⟨b, o + 3, none⟩ = some (.int .i64 x.k.e) ∧ w.cell? ⟨b, o + 4, none⟩ = some (.slice x.A x.n x.c) ∧ w.cell? ⟨b, o + 5, none⟩ = some (.bool x.dr) :=
 ⟨h 0 _ rfl, h 1 _ rfl, h 2 _ rfl, h 3 _ rfl, h 4 _ rfl, h 5 _ rfl⟩
theorem hcB_cells {T : TypeId} {w : World} {b : Nat} {x : Hc} (h : Blk w b T #[.string (str (x).nm), .int .i64 (x).k.t, .int .i64 (x).k.c, .int .i64 (x).k.e, .slice (x).A (x).n (x).c, .bool (x).dr]) : w.cell? ⟨b, 0, none⟩ = some (.string (str x.nm)) ∧ w.cell? ⟨b, 1, none⟩ = some (.int .i64 x.k.t) ∧ w.cell? ⟨b, 2, none⟩ = some (.int .i64 x.k.c) ∧ w.cell? ⟨b, 3, none⟩ = some (.int .i64 x.k.e) ∧ w.cell? ⟨b, 4, none⟩ = some (.slice x.A x.n x.c) ∧ w.cell? ⟨b, 5, none⟩ = some (.bool x.dr) :=
 ⟨(Blk.cell h 0).trans rfl, (Blk.cell h 1).trans rfl, (Blk.cell h 2).trans rfl, (Blk.cell h 3).trans rfl, (Blk.cell h 4).trans rfl, (Blk.cell h 5).trans rfl⟩
theorem new_block {w w' : World} {O : Obj} (hg : (w.alloc O).grownBy w' (some w.heap.size)) : Below w.heap.size w w' :=
 ((Below.refl w.heap.size w).alloc (nl _) O).trans (grown_below hg (by simp) (fun k hk => by injection hk with hk; omega))
def nmLit (x : Hc) : Lit := .string x.nm
def nmSet (l : List Hc) : DataW Unit := Maps.setOf (.agg []) (l.map nmLit)
theorem nmSet_snoc {l : List Hc} {j : Nat} (hj : j < l.length) : nmSet (l.take (j + 1)) = (nmSet (l.take j)).put (.string l[j].nm) (.agg []) := by
 unfold nmSet
 rw [List.take_succ_eq_append_getElem hj, List.map_append]
 exact Maps.setOf_snoc _ _ _
theorem nmSet_len (l : List Hc) : Maps.size (nmSet l) ≤ l.length ∧ (Maps.size (nmSet l) = l.length ↔ ((l.map Hc.ch).map Ch.nm).Nodup) := by
 have h := setLen (.agg []) (l.map nmLit) (fun x hx => by obtain ⟨y, _, rfl⟩ := List.mem_map.1 hx; trivial)
 rw [List.length_map] at h
 refine ⟨h.1, h.2.trans ?_⟩
 have e : l.map nmLit = ((l.map Hc.ch).map Ch.nm).map (fun n => Lit.string n) := by rw [List.map_map, List.map_map]; rfl
 rw [e]
 exact lit_nodup _ (fun a b h => by injection h) _
theorem ck_bad {L : List Bb} {l : List Hc} {x : Hc} (hx : x ∈ l) (h : chBad x.ch) : ckE L (l.map Hc.ch) = 2 := if_pos (.inl ⟨x.ch, List.mem_map_of_mem hx, h⟩)
theorem ck_dup {L : List Bb} {l : List Hc} (h : ¬ ((l.map Hc.ch).map Ch.nm).Nodup) : ckE L (l.map Hc.ch) = 2 := if_pos (.inr h)
theorem ck_on {L : List Bb} {l : List Hc} (hb : ∀ x ∈ l, ¬ chBad x.ch) (hd : ((l.map Hc.ch).map Ch.nm).Nodup) : ckE L (l.map Hc.ch) = if ∃ x ∈ l, x.dr = true ∧ isB L x.nm = false then 90 else 0 := by
 unfold ckE
 rw [if_neg]
 · have e : (∃ x ∈ l.map Hc.ch, x.drop = true ∧ ¬ x.nm ∈ L.map Bb.nm) ↔ ∃ x ∈ l, x.dr = true ∧ isB L x.nm = false := by
    constructor
    · rintro ⟨x, hx, h1, h2⟩
      obtain ⟨y, hy, rfl⟩ := List.mem_map.1 hx
      exact ⟨y, hy, h1, by rw [← isB_dec]; exact decide_eq_false h2⟩
    · rintro ⟨y, hy, h1, h2⟩
      exact ⟨y.ch, List.mem_map_of_mem hy, h1, by rw [← isB_dec] at h2; exact of_decide_eq_false h2⟩
   by_cases h : ∃ x ∈ l, x.dr = true ∧ isB L x.nm = false
   · rw [if_pos h, if_pos (e.2 h)]
   · rw [if_neg h, if_neg fun h2 => h (e.1 h2)]
 · rintro (⟨x, hx, h⟩ | h)
   · obtain ⟨y, hy, rfl⟩ := List.mem_map.1 hx
     exact hb y hy h
   · exact h hd
section
variable {wr : World} {gd gv gc gs n mb rb k : Nat} {s : Sp} {L : List Bb} {dn : Bool} {U : Nat → Prop} {A : Option Addr} {c m : Nat} {l : List Hc}
theorem wrong_c (hS : SoB wr gs gd gv gc m L dn mb rb k s) (h : ChOn U wr A n l) (hn : n ≤ 1000000) :
 Calls Tryz.prog 50 #[.pointer (some ⟨gs, 0, none⟩), .slice A n c] wr fun e w' => e = .returned (.int .i64 (ckE L (l.map Hc.ch))) ∧ Below wr.heap.size wr w' := by
 have HH := hid h
 have HSO := hid hS
 have HN := hid hn
 have HLN : Hid (l.length = n) := hid h.len
 have HBAD := hid (fun (x : Hc) (hx : x ∈ l) (h : chBad x.ch) => @ck_bad L l x hx h)
 have HDUP := hid (@ck_dup L l)
 have HON := hid (@ck_on L l)
 generalize ckE L (l.map Hc.ch) = E at *
 clear h hS
 have hmm := fun (m : Int) (w : World) => run_makeMapN Tryz.underlying174 m w
 go_enter Tryz.func50, Tryz.ntmps50
 go_wp2_with fail
 clear hmm
 have HM0 : Hid ((wr.alloc (.map #[] 0)).ownsMap (H := Unit) Tryz.prog 9 unitElem wr.heap.size 0 (nmSet (l.take 0))) := hid (World.ownsMap_made (H := Unit) wr Tryz.prog 9 unitElem)
 have HB0 : Hid (Below wr.heap.size wr (wr.alloc (.map #[] 0))) := hid ((Below.refl _ _).alloc (nl _) _)
 go_loopg [17] n (fun kk iv w2 => ∃ (j : Nat), iv = .int .i64 (j : Int) ∧ Hid (kk = n - j) ∧ Hid (j ≤ n) ∧ Hid (∀ x ∈ l.take j, ¬ chBad x.ch) ∧ Hid (w2.ownsMap (H := Unit) Tryz.prog 9 unitElem wr.heap.size j (nmSet (l.take j))) ∧ Hid (Below wr.heap.size wr w2))
 case atStart => exact ⟨0, rfl, hid (by omega), hid (Nat.zero_le _), hid (fun x hx => by simp at hx), HM0, HB0⟩
 case round =>
 obtain ⟨j, rfl, hgk, hj, hok, hM, hB⟩ := hrel
 clear HM0 HB0
 rename World => w2
 rcases Nat.lt_or_ge j n with hlt | hge
 · have HJN := hid hlt
   have hjl : j < l.length := by rw [HLN.out]; exact hlt
   have j1 : (0 : Int) ≤ (j : Int) := by omega
   have j2 : (j : Int) < (n : Int) := by omega
   have j3 : decide ((j : Int) < (n : Int)) = true := by simpa using hlt
   have j4 : decide (j < n) = true := by simpa using hlt
   have wj : wrap64 ((j : Int) + 1) = ((j + 1 : Nat) : Int) := by have := HN.out; unfold wrap64; omega
   obtain ⟨lb, off, rfl, -, hbl, hr0, hx0⟩ := (HH.out.keep hB.out.size (fun q _ hq => hB.out.block q hq)).at_ hjl
   have HX := hid hx0
   have HXM := hid (List.getElem_mem hjl)
   have HSN := hid (nmSet_snoc hjl)
   have HTK := hid (List.take_succ_eq_append_getElem hjl)
   generalize l[j] = x at *
   obtain ⟨c0, c1, c2, c3, c4, c5⟩ := range6 hr0
   have hb2 : Below w2.heap.size w2 (w2.alloc (.cells #[.string (str (x).nm), .int .i64 (x).k.t, .int .i64 (x).k.c, .int .i64 (x).k.e, .slice (x).A (x).n (x).c, .bool (x).dr] 94)) := (Below.refl _ _).alloc (nl _) _
   have HM2 := hid (hM.out.alloc (.cells #[.string (str (x).nm), .int .i64 (x).k.t, .int .i64 (x).k.c, .int .i64 (x).k.e, .slice (x).A (x).n (x).c, .bool (x).dr] 94))
   have HB2 := hid (hB.out.trans (hb2.mono hB.out.size))
   have hk2 := Blk.new w2 94 #[.string (str (x).nm), .int .i64 (x).k.t, .int .i64 (x).k.c, .int .i64 (x).k.e, .slice (x).A (x).n (x).c, .bool (x).dr]
   have HK2 := hid hk2
   obtain ⟨x0, x1, x2, x3, x4, x5⟩ := hcB_cells (x := x) hk2
   have HBL : Hid (x.body.length = x.n) := hid HX.out.b.1
   clear hlt hjl hbl hr0 hx0 hb2 hk2 hM hB
   go_wp2_with fail
   refine (rightName_c x.nm _).mono ?_
   rintro e w' ⟨rfl, rfl⟩
   by_cases h1 : nmOk x.nm
   case neg =>
    rw [decide_eq_false h1]
    have HE := hid (HBAD.out _ HXM.out (.inl h1))
    clear h1
    go_wp2
    go_ret
    exact ⟨by rw [HE.out]; rfl, HB2.out⟩
   rw [decide_eq_true h1]
   have HNM := hid h1
   clear h1
   go_wp2_with fail
   refine (rightKey_c x.k _).mono ?_
   rintro e w3 ⟨rfl, hb3⟩
   have HB3 := hid (HB2.out.trans (hb3.mono HB2.out.size))
   have hk3 := HK2.out.keep (hb3.block _ HK2.out.lt)
   have HM3 := hid (ownsMap_keep HM2.out (hb3.block _ (World.ownsMap.lt HM2.out)))
   clear x0 x1 x2 x3 x4 x5 c0 c1 c2 c3 c4 c5
   obtain ⟨x0, x1, x2, x3, x4, x5⟩ := hcB_cells (x := x) hk3
   clear hb3 hk3 HB2 HK2 HM2
   by_cases h2 : x.k.right
   case neg =>
    rw [decide_eq_false h2]
    have HE := hid (HBAD.out _ HXM.out (.inr (.inl h2)))
    clear h2
    go_wp2
    go_ret
    exact ⟨by rw [HE.out]; rfl, HB3.out⟩
   rw [decide_eq_true h2]
   have HKR := hid h2
   clear h2
   by_cases h3 : 65536 < x.n
   · have m1 : decide ((x.n : Int) > 65536) = true := decide_eq_true (by omega)
     have m2 : decide ((65536 : Int) < (x.n : Int)) = true := decide_eq_true (by omega)
     have m3 : decide (65536 < x.n) = true := decide_eq_true h3
     have HE := hid (HBAD.out _ HXM.out (.inr (.inr (show 65536 < x.body.length by rw [HBL.out]; exact h3))))
     clear h3
     go_wp2
     go_ret
     exact ⟨by rw [HE.out]; rfl, HB3.out⟩
   · have m1 : decide ((x.n : Int) > 65536) = false := decide_eq_false (by omega)
     have m2 : decide ((65536 : Int) < (x.n : Int)) = false := decide_eq_false (by omega)
     have m3 : decide (65536 < x.n) = false := decide_eq_false h3
     have HOK : Hid (∀ y ∈ l.take (j + 1), ¬ chBad y.ch) := hid (fun y hy => by
      rw [HTK.out, List.mem_append, List.mem_singleton] at hy
      rcases hy with hy | hy
      · exact hok.out y hy
      · rw [hy]
        rintro (e | e | e)
        · exact e HNM.out
        · exact e HKR.out
        · have : 65536 < x.body.length := e
          rw [HBL.out] at this
          exact h3 this)
     have hnl : j < maxLen := by have := HJN.out; have := HN.out; unfold maxLen; omega
     have HKY : Hid (keyOf Tryz.prog 9 (.string (str x.nm)) = some (.string x.nm)) := hid (key_str HX.out.nm)
     clear h3 hok
     go_wp2_with (at_mapUpdate; refine wpList_mapUpdate_own _ rfl _ _ _ 174 rfl 9 148 Tryz.lawStr Tryz.underlying174 unitElem wr.heap.size j _ rfl HM3.out hnl _ _ (.string x.nm) rfl rfl HKY.out (.agg []) [] unitElem_mk ?_)
     intro w4 hM4 hg4
     have HM4 : Hid (w4.ownsMap (H := Unit) Tryz.prog 9 unitElem wr.heap.size (j + 1) (nmSet (l.take (j + 1)))) := hid (by rw [HSN.out]; exact hM4)
     have HB4 := hid (HB3.out.grown hg4 HB3.out.size (fun k hk => by injection hk with hk; omega))
     clear hM4 hg4 x0 x1 x2 x3 x4 x5 m1 m2 m3 HM3 HB3 hnl
     go_wp2_with fail
     go_roundg (n - (j + 1))
     case measure => have := hgk.out; have := HJN.out; omega
     case rel => exact ⟨j + 1, by first | rfl | rw [wj], hid rfl, hid HJN.out, HOK, HM4, HB4⟩
 · have hjn : j = n := by have := hj.out; omega
   subst hjn
   have j2 : ¬ (j : Int) < (j : Int) := by omega
   have HT : Hid (l.take j = l) := hid (by rw [← HLN.out, List.take_length])
   have HOKL : Hid (∀ x ∈ l, ¬ chBad x.ch) := hid (by have := hok.out; rwa [HT.out] at this)
   have hlen := World.ownsMap.len hM.out Tryz.underlying174
   rw [HT.out] at hlen
   have hq := nmSet_len l
   rw [HLN.out] at hq
   generalize Maps.size (nmSet l) = q at *
   clear hge hj hgk hM hok
   by_cases e : q = j
   case neg =>
    have HE := hid (HDUP.out fun h => e (hq.2.2 h))
    have e1 : decide ((q : Int) < (j : Int)) = true := decide_eq_true (by have := hq.1; omega)
    have e2 : decide (q < j) = true := decide_eq_true (by have := hq.1; omega)
    clear e hq
    go_wp2
    go_ret
    exact ⟨by rw [HE.out]; rfl, hB.out⟩
   have HE := hid (HON.out HOKL.out (hq.2.1 e))
   subst e
   clear hq
   go_wp2_with fail
   clear hlen
   go_loopg [49] q (fun kk iv w3 => ∃ (j : Nat), iv = .int .i64 (j : Int) ∧ Hid (kk = q - j) ∧ Hid (j ≤ q) ∧ Hid (∀ x ∈ l.take j, ¬ (x.dr = true ∧ isB L x.nm = false)) ∧ Hid (Below wr.heap.size wr w3))
   case atStart => exact ⟨0, rfl, hid (by omega), hid (Nat.zero_le _), hid (fun x hx => by simp at hx), hB⟩
   case round =>
   obtain ⟨j, rfl, hgk, hj, hok, hB⟩ := hrel
   rename World => w3
   rcases Nat.lt_or_ge j q with hlt | hge
   · have HJN := hid hlt
     have hjl : j < l.length := by rw [HLN.out]; exact hlt
     have j1 : (0 : Int) ≤ (j : Int) := by omega
     have j2 : (j : Int) < (q : Int) := by omega
     have j3 : decide ((j : Int) < (q : Int)) = true := by simpa using hlt
     have j4 : decide (j < q) = true := by simpa using hlt
     have wj : wrap64 ((j : Int) + 1) = ((j + 1 : Nat) : Int) := by have := HN.out; unfold wrap64; omega
     obtain ⟨lb, off, rfl, -, hbl, hr0, hx0⟩ := (HH.out.keep hB.out.size (fun q _ hq => hB.out.block q hq)).at_ hjl
     have HX := hid hx0
     have HXM := hid (List.getElem_mem hjl)
     have HTK := hid (List.take_succ_eq_append_getElem hjl)
     generalize l[j] = x at *
     obtain ⟨c0, c1, c2, c3, c4, c5⟩ := range6 hr0
     have hb2 : Below w3.heap.size w3 (w3.alloc (.cells #[.string (str (x).nm), .int .i64 (x).k.t, .int .i64 (x).k.c, .int .i64 (x).k.e, .slice (x).A (x).n (x).c, .bool (x).dr] 94)) := (Below.refl _ _).alloc (nl _) _
     have HB2 := hid (hB.out.trans (hb2.mono hB.out.size))
     have HK2 := hid (Blk.new w3 94 #[.string (str (x).nm), .int .i64 (x).k.t, .int .i64 (x).k.c, .int .i64 (x).k.e, .slice (x).A (x).n (x).c, .bool (x).dr])
     clear hlt hjl hbl hr0 hx0 hb2 hB
     go_wp2_with fail
     generalize w3.heap.size = bx at *
     have HB3 := hid HB2.out.drew
     have HK3 : Hid (Blk (w3.alloc (.cells #[.string (str (x).nm), .int .i64 (x).k.t, .int .i64 (x).k.c, .int .i64 (x).k.e, .slice (x).A (x).n (x).c, .bool (x).dr] 94)).drew bx 94 #[.string (str (x).nm), .int .i64 (x).k.t, .int .i64 (x).k.c, .int .i64 (x).k.e, .slice (x).A (x).n (x).c, .bool (x).dr]) := hid HK2.out
     have HS3 := hid (HSO.out.bel HB3.out)
     clear HB2 HK2 c0 c1 c2 c3 c4 c5
     refine wp_region_held_drew (S := fun wx => wx.cell? ⟨gs, 3, none⟩ = some (.map (some mb)) ∧ Blk wx bx 94 #[.string (str (x).nm), .int .i64 (x).k.t, .int .i64 (x).k.c, .int .i64 (x).k.e, .slice (x).A (x).n (x).c, .bool (x).dr] ∧ BMp wx mb L) (by kernel_rfl) ⟨HS3.out.cells.2.2.2.1, HK3.out, HS3.out.map⟩ (fun HS => ?_)
     generalize (w3.alloc (.cells #[.string (str (x).nm), .int .i64 (x).k.t, .int .i64 (x).k.c, .int .i64 (x).k.e, .slice (x).A (x).n (x).c, .bool (x).dr] 94)).drew = w4 at *
     refine qT 0 ?v0 ?y0 HS ?r0
     case y0 =>
      refine qI fun wS hSw => ?_
      have y3 := hSw.1
      go_simp
      try with_reducible rfl
     try simp only [Act.put, zA]
     refine qT 1 ?v1 ?y1 HS ?r1
     case y1 =>
      refine qI fun wS hSw => ?_
      have y3 := hSw.1
      go_simp
      try with_reducible rfl
     try simp only [Act.put, zA]
     refine qT 2 ?v2 ?y2 HS ?r2
     case y2 =>
      refine qI fun wS hSw => ?_
      have y3 := hSw.1
      go_simp
      try with_reducible rfl
     try simp only [Act.put, zA]
     refine qT 3 ?v3 ?y3 HS ?r3
     case y3 =>
      refine qI fun wS hSw => ?_
      have y3 := hSw.1
      go_simp
      try with_reducible rfl
     try simp only [Act.put, zA]
     refine qT 4 ?v4 ?y4 HS ?r4
     case y4 =>
      refine qI fun wS hSw => ?_
      have y3 := hSw.1
      go_simp
      try with_reducible rfl
     try simp only [Act.put, zA]
     refine qT 5 ?v5 ?y5 HS ?r5
     case y5 =>
      refine qI fun wS hSw => ?_
      have y3 := (hcB_cells (x := x) hSw.2.1).1
      go_simp
      try with_reducible rfl
     try simp only [Act.put, zA]
     refine qT 6 ?v6 ?y6 HS ?r6
     case y6 =>
      refine qI fun wS hSw => ?_
      have y3 := hSw.2.2.look HX.out.nm
      unfold Bb.val Bb.cells at y3
      go_simp
      try with_reducible rfl
     try simp only [Act.put, zA]
     refine qT 7 ?v7 ?y7 HS ?r7
     case y7 => refine qI fun wS hSw => ?_; go_simp; try with_reducible rfl
     try simp only [Act.put, zA]
     refine qT 8 ?v8 ?y8 HS ?r8
     case y8 => refine qI fun wS hSw => ?_; go_simp; try with_reducible rfl
     try simp only [Act.put, zA]
     refine qT 9 ?v9 ?y9 HS ?r9
     case y9 => refine qI fun wS hSw => ?_; go_simp; try with_reducible rfl
     try simp only [Act.put, zA]
     refine qR 10 fun K hK => ?_
     go_simp
     refine hK.out _ _ ⟨(HS3.out.bel (((Below.refl w4.heap.size w4).alloc (nl _) (.cells #[.string (str (bb0).nm), .int .i64 (bb0).k.t, .int .i64 (bb0).k.c, .int .i64 (bb0).k.e, .int .i64 (bb0).b, .int .i64 (bb0).p.k.t, .int .i64 (bb0).p.k.c, .int .i64 (bb0).p.k.e, .int .i64 (bb0).p.id, .int .i64 (bb0).p.ver, .int .i64 (bb0).sz] 90)))).cells.2.2.2.1, HK3.out.keep ((((Below.refl w4.heap.size w4).alloc (nl _) (.cells #[.string (str (bb0).nm), .int .i64 (bb0).k.t, .int .i64 (bb0).k.c, .int .i64 (bb0).k.e, .int .i64 (bb0).b, .int .i64 (bb0).p.k.t, .int .i64 (bb0).p.k.c, .int .i64 (bb0).p.k.e, .int .i64 (bb0).p.id, .int .i64 (bb0).p.ver, .int .i64 (bb0).sz] 90))).block bx HK3.out.lt), (HS3.out.bel (((Below.refl w4.heap.size w4).alloc (nl _) (.cells #[.string (str (bb0).nm), .int .i64 (bb0).k.t, .int .i64 (bb0).k.c, .int .i64 (bb0).k.e, .int .i64 (bb0).b, .int .i64 (bb0).p.k.t, .int .i64 (bb0).p.k.c, .int .i64 (bb0).p.k.e, .int .i64 (bb0).p.id, .int .i64 (bb0).p.ver, .int .i64 (bb0).sz] 90)))).map⟩ (fun HS => ?_)
     clear hK K
     try simp only [Act.put, zA]
     refine qR 11 fun K hK => ?_
     refine wp_storeB _ _ rfl (Blk.new w4 90 #[.string (str (bb0).nm), .int .i64 (bb0).k.t, .int .i64 (bb0).k.c, .int .i64 (bb0).k.e, .int .i64 (bb0).b, .int .i64 (bb0).p.k.t, .int .i64 (bb0).p.k.c, .int .i64 (bb0).p.k.e, .int .i64 (bb0).p.id, .int .i64 (bb0).p.ver, .int .i64 (bb0).sz]) rfl rfl (getB L x.nm) rfl ?_
     intro w7 hB7 hg7
     have HW7 := hid (new_block hg7)
     clear hB7 hg7
     refine hK.out _ _ ⟨(HS3.out.bel HW7.out).cells.2.2.2.1, HK3.out.keep (HW7.out.block bx HK3.out.lt), (HS3.out.bel HW7.out).map⟩ (fun HS => ?_)
     clear hK K
     try simp only [Act.put]
     refine qT 12 ?v12 ?y12 HS ?r12
     case y12 => refine qI fun wS hSw => ?_; go_simp; try with_reducible rfl
     try simp only [Act.put, zA]
     refine qD ?_
     clear HS
     have HB7 := hid (HB3.out.trans (HW7.out.mono HB3.out.size))
     have hk7 := HK3.out.keep (HW7.out.block bx HK3.out.lt)
     obtain ⟨x0, x1, x2, x3, x4, x5⟩ := hcB_cells (x := x) hk7
     clear hk7 HB3 HK3 HS3 HW7
     cases hdr : x.dr
     · have HOK : Hid (∀ y ∈ l.take (j + 1), ¬ (y.dr = true ∧ isB L y.nm = false)) := hid (fun y hy => by
        rw [HTK.out, List.mem_append, List.mem_singleton] at hy
        rcases hy with hy | hy
        · exact hok.out y hy
        · rw [hy, hdr]; rintro ⟨e, _⟩; cases e)
       rw [hdr] at x5
       clear hdr hok
       go_wp2_with fail
       go_roundg (q - (j + 1))
       case measure => have := hgk.out; have := HJN.out; omega
       case rel => exact ⟨j + 1, by first | rfl | rw [wj], hid rfl, hid HJN.out, HOK, HB7⟩
     · rw [hdr] at x5
       cases hib : isB L x.nm
       · have HE2 : Hid (E = 90) := hid (HE.out.trans (if_pos ⟨x, HXM.out, hdr, hib⟩))
         clear hdr hib hok
         go_wp2
         go_ret
         exact ⟨by rw [HE2.out]; rfl, HB7.out⟩
       · have HOK : Hid (∀ y ∈ l.take (j + 1), ¬ (y.dr = true ∧ isB L y.nm = false)) := hid (fun y hy => by
          rw [HTK.out, List.mem_append, List.mem_singleton] at hy
          rcases hy with hy | hy
          · exact hok.out y hy
          · rw [hy, hib]; rintro ⟨_, e⟩; cases e)
         clear hdr hib hok
         go_wp2_with fail
         go_roundg (q - (j + 1))
         case measure => have := hgk.out; have := HJN.out; omega
         case rel => exact ⟨j + 1, by first | rfl | rw [wj], hid rfl, hid HJN.out, HOK, HB7⟩
   · have hjn : j = q := by have := hj.out; omega
     subst hjn
     have j2 : ¬ (j : Int) < (j : Int) := by omega
     have HE2 : Hid (E = 0) := hid (HE.out.trans (if_neg (by
      rintro ⟨x, hx, h1, h2⟩
      have hT : l.take j = l := by rw [← HLN.out, List.take_length]
      exact hok.out x (by rw [hT]; exact hx) ⟨h1, h2⟩)))
     clear hge hj hgk hok
     go_wp2
     go_ret
     exact ⟨by rw [HE2.out]; rfl, hB.out⟩
end
theorem opE_nil (v : Va) (k : Ky) : (opE v k [] 0 = 50 ↔ k ∈ v.G) := by
 unfold opE
 by_cases h : k ∈ v.G
 · rw [if_pos h]; exact ⟨fun _ => h, fun _ => rfl⟩
 · rw [if_neg h]
   constructor
   · intro e; split at e <;> omega
   · exact fun e => absurd e h
theorem exec_loadK {w : World} {b : Nat} {t : TypeId} {op : Oper} {a : Act} {y : Hc} (x : Operand) (ho : op.op = .load 54 x) (hx : a.eval x = .pointer (some ⟨b, 1, none⟩)) (h : Blk w b t #[.string (str (y).nm), .int .i64 (y).k.t, .int .i64 (y).k.c, .int .i64 (y).k.e, .slice (y).A (y).n (y).c, .bool (y).dr]) : (execOp a.eval op).run Tryz.prog w = .ok (.value (.agg #[.int .i64 (y.k).t, .int .i64 (y.k).c, .int .i64 (y.k).e])) w :=
 exec_load_mid 54 x ho b 1 hx [.int .i64 y.k.t, .int .i64 y.k.c, .int .i64 y.k.e] _ (fun j u hu => by
  have hj := (List.getElem?_eq_some_iff.1 hu).1
  have := blkB_range (l := y.cells) h (1 + j) u (by
   have e : y.cells = [.string (str y.nm)] ++ ([.int .i64 y.k.t, .int .i64 y.k.c, .int .i64 y.k.e] ++ [.slice y.A y.n y.c, .bool y.dr]) := rfl
   rw [e, List.getElem?_append_right (by simp), List.getElem?_append_left (by simp at hj ⊢; omega)]
   simpa using hu)
  rwa [Nat.zero_add] at this) Tryz.underlying54 rfl (by kernel_rfl)
section
variable {C : Ob → Ob} {w wr : World} {gd gv gc gs n m : Nat} {d : St} {v : Va} {c : Ce} {L : List Bb} {dn : Bool} {X U : Nat → Prop} {A : Option Addr} {q : Nat} {l : List Hc}
theorem vopen_on (hC : Foc C) (h : On w (C (VtO gv v)) wr X) (k : Ky) (hk : k.wf) (b : List UInt8) (hd : Nat) (hh : hd < 18446744073709551616) :
 Calls Tryz.prog 94 #[.pointer (some ⟨gv, 0, none⟩), (.agg #[.int .i64 (k).t, .int .i64 (k).c, .int .i64 (k).e]), .string (str b), .int .u64 (hd : Int)] wr fun e w' => ∃ A n c, e = .returned (.tuple #[.slice A n c, .int .i64 (opE v k b hd)]) ∧ Below wr.heap.size wr w' := by
 obtain ⟨F, h1, _⟩ := h.at_ hC
 refine (open_any wr F gv v h1 k hk b (hd : Int) hd rfl hh).mono ?_
 rintro e w' ⟨A, n, c, rfl, _, _, hb⟩
 exact ⟨A, n, c, rfl, hb⟩
def kgB (v : Va) (l : List Hc) : Prop := ∃ x ∈ l, x.dr = false ∧ x.k ∈ v.G
instance (v : Va) (l : List Hc) : Decidable (kgB v l) := inferInstanceAs (Decidable (∃ x ∈ l, _))
theorem keyGone_on (hC : Foc C) (hOk : ∀ P : Ob, P.Ok → (C P).Ok) (hO : On w (C (TS gd d gv v gc c gs m L dn)) wr X) (h : ChOn U wr A n l) (hn : n ≤ 1000000) :
 Calls Tryz.prog 52 #[.pointer (some ⟨gs, 0, none⟩), .slice A n q] wr fun e w' => e = .returned (.bool (decide (kgB v l))) ∧ Below wr.heap.size wr w' := by
 have HH := hid h
 have HO := hid hO
 have HOK := hid hOk
 have HN := hid hn
 have HLN : Hid (l.length = n) := hid h.len
 clear h hO hOk
 go_enter Tryz.func52, Tryz.ntmps52
 go_wp2_with fail
 go_loopg [11] n (fun kk iv w2 => ∃ (j : Nat), iv = .int .i64 (j : Int) ∧ Hid (kk = n - j) ∧ Hid (j ≤ n) ∧ Hid (∀ x ∈ l.take j, ¬ (x.dr = false ∧ x.k ∈ v.G)) ∧ Hid (Below wr.heap.size wr w2))
 case atStart => exact ⟨0, rfl, hid (by omega), hid (Nat.zero_le _), hid (fun x hx => by simp at hx), hid (Below.refl _ _)⟩
 case round =>
 obtain ⟨j, rfl, hgk, hj, hok, hB⟩ := hrel
 rename World => w2
 rcases Nat.lt_or_ge j n with hlt | hge
 · have HJN := hid hlt
   have hjl : j < l.length := by rw [HLN.out]; exact hlt
   have j1 : (0 : Int) ≤ (j : Int) := by omega
   have j2 : (j : Int) < (n : Int) := by omega
   have j3 : decide ((j : Int) < (n : Int)) = true := by simpa using hlt
   have j4 : decide (j < n) = true := by simpa using hlt
   have wj : wrap64 ((j : Int) + 1) = ((j + 1 : Nat) : Int) := by have := HN.out; unfold wrap64; omega
   obtain ⟨lb, off, rfl, -, hbl, hr0, hx0⟩ := (HH.out.keep hB.out.size (fun q _ hq => hB.out.block q hq)).at_ hjl
   have HX := hid hx0
   have HXM := hid (List.getElem_mem hjl)
   have HTK := hid (List.take_succ_eq_append_getElem hjl)
   have HPU : Hid (∀ x' : Hc, x' ∈ l.take (j + 1) → x' ∈ l.take j ∨ x' = l[j]) := hid (fun x' hx' => by rw [HTK.out, List.mem_append, List.mem_singleton] at hx'; exact hx')
   generalize l[j] = x at *
   obtain ⟨c0, c1, c2, c3, c4, c5⟩ := range6 hr0
   have hb2 : Below w2.heap.size w2 (w2.alloc (.cells #[.string (str (x).nm), .int .i64 (x).k.t, .int .i64 (x).k.c, .int .i64 (x).k.e, .slice (x).A (x).n (x).c, .bool (x).dr] 94)) := (Below.refl _ _).alloc (nl _) _
   have HB2 := hid (hB.out.trans (hb2.mono hB.out.size))
   have hk2 := Blk.new w2 94 #[.string (str (x).nm), .int .i64 (x).k.t, .int .i64 (x).k.c, .int .i64 (x).k.e, .slice (x).A (x).n (x).c, .bool (x).dr]
   have HK2 := hid hk2
   obtain ⟨x0, x1, x2, x3, x4, x5⟩ := hcB_cells (x := x) hk2
   clear hlt hjl hbl hr0 hx0 hb2 hB hk2 HTK
   cases hdr : x.dr
   case true =>
    have HOK2 : Hid (∀ y ∈ l.take (j + 1), ¬ (y.dr = false ∧ y.k ∈ v.G)) := hid (fun y hy => by
     rcases HPU.out y hy with hy | hy
     · exact hok.out y hy
     · rw [hy, hdr]; rintro ⟨e, _⟩; cases e)
    rw [hdr] at c5
    have HB3 : Hid (Below wr.heap.size wr (w2.alloc (.cells #[.string (str x.nm), .int .i64 x.k.t, .int .i64 x.k.c, .int .i64 x.k.e, .slice x.A x.n x.c, .bool true] 94))) := hid (by have := HB2.out; rwa [hdr] at this)
    clear hdr hok x0 x1 x2 x3 x4 x5 HB2 HK2
    go_wp2_with fail
    go_roundg (n - (j + 1))
    case measure => have := hgk.out; have := HJN.out; omega
    case rel => exact ⟨j + 1, by first | rfl | rw [wj], hid rfl, hid HJN.out, HOK2, HB3⟩
   case false =>
   have HDR := hid hdr
   have hx5 := hdr
   rw [hdr] at x5
   have HO3 := hid (HO.out.go (HOK.out _ (TS.ok _ _ _ _ _ _ _ _ _ _)) HB2.out.drew)
   have HB3 := hid HB2.out.drew
   have HK3 : Hid (Blk (w2.alloc (.cells #[.string (str (x).nm), .int .i64 (x).k.t, .int .i64 (x).k.c, .int .i64 (x).k.e, .slice (x).A (x).n (x).c, .bool (x).dr] 94)).drew w2.heap.size 94 #[.string (str (x).nm), .int .i64 (x).k.t, .int .i64 (x).k.c, .int .i64 (x).k.e, .slice (x).A (x).n (x).c, .bool (x).dr]) := hid HK2.out
   have HSX : Hid (∃ mb rb k s, SoB (w2.alloc (.cells #[.string (str (x).nm), .int .i64 (x).k.t, .int .i64 (x).k.c, .int .i64 (x).k.e, .slice (x).A (x).n (x).c, .bool (x).dr] 94)).drew gs gd gv gc m L dn mb rb k s) := hid (so_at (hC.comp (ts_s gd d gv v gc c)) HO3.out)
   obtain ⟨mb, rb, k, s, hS3⟩ := HSX.out
   have HS3 := hid hS3
   have HDE : Hid ((w2.alloc (.cells #[.string (str x.nm), .int .i64 x.k.t, .int .i64 x.k.c, .int .i64 x.k.e, .slice x.A x.n x.c, .bool false] 94)) = w2.alloc (.cells #[.string (str (x).nm), .int .i64 (x).k.t, .int .i64 (x).k.c, .int .i64 (x).k.e, .slice (x).A (x).n (x).c, .bool (x).dr] 94)) := hid (by rw [hdr])
   rw [hdr] at c5
   clear hdr hS3 HSX hx5 HB2 HK2
   go_wp2_with fail
   rw [HDE.out]
   clear HDE
   generalize w2.heap.size = bx at *
   refine wp_region_held_drew (S := fun wx => wx.cell? ⟨gs, 1, none⟩ = some (.pointer (some ⟨gv, 0, none⟩)) ∧ Blk wx bx 94 #[.string (str (x).nm), .int .i64 (x).k.t, .int .i64 (x).k.c, .int .i64 (x).k.e, .slice (x).A (x).n (x).c, .bool (x).dr]) (by kernel_rfl) ⟨HS3.out.cells.2.1, HK3.out⟩ (fun HS => ?_)
   generalize (w2.alloc (.cells #[.string (str (x).nm), .int .i64 (x).k.t, .int .i64 (x).k.c, .int .i64 (x).k.e, .slice (x).A (x).n (x).c, .bool (x).dr] 94)).drew = w3 at *
   refine qT 0 ?v0 ?y0 HS ?r0
   case y0 =>
    refine qI fun wS hSw => ?_
    have y1 := hSw.1
    go_simp
    try with_reducible rfl
   try simp only [Act.put, zA]
   refine qT 1 ?v1 ?y1 HS ?r1
   case y1 =>
    refine qI fun wS hSw => ?_
    have y1 := hSw.1
    go_simp
    try with_reducible rfl
   try simp only [Act.put, zA]
   refine qT 2 ?v2 ?y2 HS ?r2
   case y2 =>
    refine qI fun wS hSw => ?_
    have y1 := hSw.1
    go_simp
    try with_reducible rfl
   try simp only [Act.put, zA]
   refine qT 3 ?v3 ?y3 HS ?r3
   case y3 =>
    refine qI fun wS hSw => ?_
    have y1 := hSw.1
    go_simp
    try with_reducible rfl
   try simp only [Act.put, zA]
   refine qT 4 ?v4 ?y4 HS ?r4
   case y4 =>
    refine qI fun wS hSw => ?_
    have y1 := hSw.1
    go_simp
    try with_reducible rfl
   try simp only [Act.put, zA]
   refine qT 5 ?v5 ?y5 HS ?r5
   case y5 =>
    refine qI fun wS hSw => ?_
    refine Eq.trans (exec_loadK (.tmp 22) ?_ ?_ hSw.2) ?_
    all_goals rfl
   try simp only [Act.put, zA]
   refine qR 6 fun K hK => ?_
   go_simp
   refine (vopen_on (hC.comp ((ts_t gs gd gv gc m L dn).comp (tc_v gd d gc c))) HO3.out x.k HX.out.k [] 0 (by decide)).mono ?_
   rintro e w5 ⟨A5, n5, k5, rfl, hb5⟩
   have hB5 := hid (HB3.out.trans (hb5.mono HB3.out.size))
   have HS5 := hid (HS3.out.bel hb5)
   have HK5 := hid (HK3.out.keep (hb5.block _ HK3.out.lt))
   clear hb5 HB3 HK3 HS3 HO3
   refine hK.out _ _ ⟨HS5.out.cells.2.1, HK5.out⟩ (fun HS => ?_)
   clear hK K
   try simp only [Act.put, zA]
   refine qT 7 ?v7 ?y7 HS ?r7
   case y7 => refine qI fun wS hSw => ?_; go_simp; try with_reducible rfl
   try simp only [Act.put, zA]
   refine qT 8 ?v8 ?y8 HS ?r8
   case y8 => refine qI fun wS hSw => ?_; go_simp; try with_reducible rfl
   try simp only [Act.put, zA]
   refine qT 9 ?v9 ?y9 HS ?r9
   case y9 => refine qI fun wS hSw => ?_; go_simp; try with_reducible rfl
   try simp only [Act.put, zA]
   refine qT 10 ?v10 ?y10 HS ?r10
   case y10 => refine qI fun wS hSw => ?_; go_simp; try with_reducible rfl
   try simp only [Act.put, zA]
   refine qT 11 ?v11 ?y11 HS ?r11
   case y11 => refine qI fun wS hSw => ?_; go_simp; try with_reducible rfl
   try simp only [Act.put, zA]
   refine qD ?_
   clear HS HS5 HK5
   have HB5 := hB5
   clear hB5
   by_cases hg : x.k ∈ v.G
   · have HF : Hid (decide (kgB v l) = true) := hid (decide_eq_true ⟨x, HXM.out, HDR.out, hg⟩)
     have hE := (opE_nil v x.k).2 hg
     rw [hE]
     clear hg hE hok
     go_wp2
     go_ret
     exact ⟨congrArg (fun b => Ending.returned (.bool b)) HF.out.symm, HB5.out⟩
   · have HOK2 : Hid (∀ y ∈ l.take (j + 1), ¬ (y.dr = false ∧ y.k ∈ v.G)) := hid (fun y hy => by
      rcases HPU.out y hy with hy | hy
      · exact hok.out y hy
      · rw [hy]; rintro ⟨_, e⟩; exact hg e)
     have hE : ¬ opE v x.k [] 0 = 50 := fun e => hg ((opE_nil v x.k).1 e)
     have z1 : (opE v x.k [] 0 == 50) = false := beq_eq_false_iff_ne.2 hE
     have z2 : decide (opE v x.k [] 0 = 50) = false := decide_eq_false hE
     generalize opE v x.k [] 0 = E5 at *
     clear hg hok
     go_wp2_with fail
     go_roundg (n - (j + 1))
     case measure => have := hgk.out; have := HJN.out; omega
     case rel => exact ⟨j + 1, by first | rfl | rw [wj], hid rfl, hid HJN.out, HOK2, HB5⟩
 · have hjn : j = n := by have := hj.out; omega
   subst hjn
   have j2 : ¬ (j : Int) < (j : Int) := by omega
   have HF : Hid (decide (kgB v l) = false) := hid (decide_eq_false (by
    rintro ⟨x, hx, h1, h2⟩
    have hT : l.take j = l := by rw [← HLN.out, List.take_length]
    exact hok.out x (by rw [hT]; exact hx) ⟨h1, h2⟩))
   clear hge hj hgk hok
   go_wp2
   go_ret
   exact ⟨congrArg (fun b => Ending.returned (.bool b)) HF.out.symm, hB.out⟩
end
def lyW (nx : List Bb) (l : List Hc) : List (Bb × List UInt8) := (l.filter fun x => !x.dr).map fun x => (getB nx x.nm, x.body)
theorem lyW_snoc {nx : List Bb} {l : List Hc} {x : Hc} : lyW nx (l ++ [x]) = lyW nx l ++ (if x.dr then [] else [(getB nx x.nm, x.body)]) := by
 unfold lyW
 rw [List.filter_append, List.map_append]
 congr 1
 cases h : x.dr <;> simp [h]
theorem wrs_app : ∀ (a b : List (Bb × List UInt8)) (d : St) (v : Va), wrs (a ++ b) d v = if (wrs a d v).1 ≠ 0 then wrs a d v else wrs b (wrs a d v).2.1 (wrs a d v).2.2
 | [], b, d, v => by
  show wrs b d v = _
  rw [wrs]
  simp
 | (y, t) :: r, b, d, v => by
  rw [List.cons_append, wrs, wrs]
  by_cases h : pwE d v y.b y.p t.length ≠ 0
  · simp only [if_pos h]
  · simp only [if_neg h]
    exact wrs_app r b _ _
theorem wrs_one (y : Bb) (t : List UInt8) (d : St) (v : Va) : wrs [(y, t)] d v = (pwE d v y.b y.p t.length, pwD d v y.b y.p t.length, pwV d v y.b y.p t) := by
 rw [wrs]
 by_cases h : pwE d v y.b y.p t.length ≠ 0
 · rw [if_pos h]
 · rw [if_neg h, wrs]
   have : pwE d v y.b y.p t.length = 0 := by omega
   rw [this]
def lyR (d : St) (v : Va) (c : Ce) (ws : List (Bb × List UInt8)) (b : List UInt8) : Int × St × Va × Ce :=
 if (wrs ws d v).1 ≠ 0 then ((wrs ws d v).1, (wrs ws d v).2.1, (wrs ws d v).2.2, c)
 else (ptE (wrs ws d v).2.1 (wrs ws d v).2.2 c b.length, ptD (wrs ws d v).2.1 (wrs ws d v).2.2 c b.length, ptV (wrs ws d v).2.1 (wrs ws d v).2.2 c b, ptC (wrs ws d v).2.1 (wrs ws d v).2.2 c b.length)
theorem exec_load1 {w : World} {b o : Nat} {op : Oper} {a : Act} {u : Value} (T : TypeId) (x : Operand) (ho : op.op = .load T x) {e : TypeId} (hu : Tryz.prog.underlying T = some (.slice e)) (hx : a.eval x = .pointer (some ⟨b, o, none⟩)) (h : w.cell? ⟨b, o, none⟩ = some u) : (execOp a.eval op).run Tryz.prog w = .ok (.value u) w := by
 have hagg : (isAgg T).run Tryz.prog w = .ok false w := by
  unfold isAgg
  rw [Sem.run_bind, run_underlying hu w]
  rfl
 have hl : (loadVar T ⟨b, o, none⟩).run Tryz.prog w = .ok u w := by
  unfold loadVar
  rw [Sem.run_bind, hagg]
  simp [h]
 unfold execOp
 simp only [ho, hx, Instr.loadAt, Instr.sureAddr, Sem.run_bind, Sem.run_pure, Result.andThen_ok, hl]
section
variable {C : Ob → Ob} {w wr : World} {gd gv gc gs n m : Nat} {d : St} {v : Va} {c : Ce} {L nx : List Bb} {dn : Bool} {X : Nat → Prop} {A : Option Addr} {q : Nat} {l : List Hc}
theorem lay_on (hC : Foc C) (hOk : ∀ P : Ob, P.Ok → (C P).Ok) (hO : On w (C (TS gd d gv v gc c gs m L dn)) wr X) (h : ChOn (fun b => X b ∨ b < w.heap.size) wr A n l) (hn : n ≤ 10000)
 (pm rq : Nat) (DA : Option Addr) (Dn Dc : Nat) (db : List UInt8) (hpm : BMp wr pm nx) (hpX : X pm) (hdb : Bts wr 0 wr.heap.size DA Dn db) (hdX : ∀ b, DA.map (·.block) = some b → X b)
 (hnx : ∀ y ∈ nx, y.wf ∧ y.p.k = y.k) (hin : ∀ x ∈ l, x.dr = false → isB nx x.nm = true) (hW : d.W.length ≤ 30000) (hL : v.L.length ≤ 300000) (hv : c.ver ≤ 500000) :
 Calls Tryz.prog 53 #[.pointer (some ⟨gs, 0, none⟩), .slice A n q, .agg #[.map (some pm), .pointer (some ⟨rq, 0, none⟩), .slice DA Dn Dc]] wr fun e w' => e = .returned (.int .i64 (lyR d v c (lyW nx l) db).1) ∧
  On w (C (TS gd (lyR d v c (lyW nx l) db).2.1 gv (lyR d v c (lyW nx l) db).2.2.1 gc (lyR d v c (lyW nx l) db).2.2.2 gs m L dn)) w' X ∧ Stay X wr w' := by
 have HN := hid hn
 have HLN : Hid (l.length = n) := hid h.len
 have HOK := hid hOk
 have HNX := hid hnx
 have HIN := hid hin
 have HWL := hid hW
 have HLL := hid hL
 have HV := hid hv
 have hb1 : Below wr.heap.size wr (wr.alloc (.cells #[.map (some pm), .pointer (some ⟨rq, 0, none⟩), .slice DA Dn Dc] 128)) := (Below.refl _ _).alloc (nl _) _
 have HO1 := hid (hO.add (hOk _ (TS.ok _ _ _ _ _ _ _ _ _ _)) hb1 (Y := fun x => x = wr.heap.size) (fun x hx => by subst hx; simp))
 have HP1 := hid (Blk.new wr 128 #[.map (some pm), .pointer (some ⟨rq, 0, none⟩), .slice DA Dn Dc])
 have HC1 := hid (h.bel hb1)
 have HM1 := hid (hpm.bel hb1)
 have HD1 := hid ((hdb.below hb1 (nl _)).wide (nl _) hb1.size)
 have HST1 : Hid (Stay X wr (wr.alloc (.cells #[.map (some pm), .pointer (some ⟨rq, 0, none⟩), .slice DA Dn Dc] 128))) := hid (hO.stay hb1)
 have HPX := hid hpX
 have HDX := hid hdX
 have HBW : Hid (Below w.heap.size w wr) := hid hO.below
 clear h hO hOk hnx hin hb1 hpm hdb hdX hpX hW hL hv hn
 go_enter Tryz.func53, Tryz.ntmps53
 go_wp2_with fail
 have hw1 : ∃ w1, w1 = wr.alloc (.cells #[.map (some pm), .pointer (some ⟨rq, 0, none⟩), .slice DA Dn Dc] 128) := ⟨_, rfl⟩
 obtain ⟨w1, hw1⟩ := hw1
 rw [← hw1] at HO1 HP1 HC1 HM1 HD1 HST1 ⊢
 generalize wr.heap.size = pb at *
 clear hw1
 go_loopg [13] n (fun kk iv w2 => ∃ (j : Nat) (D : St) (V : Va), iv = .int .i64 (j : Int) ∧ Hid (kk = n - j) ∧ Hid (j ≤ n) ∧ Hid (wrs (lyW nx (l.take j)) d v = (0, D, V)) ∧ Hid (D.W.length ≤ 30000 + j) ∧ Hid (V.L.length ≤ 300000 + j) ∧ Hid (On w (C (TS gd D gv V gc c gs m L dn)) w2 (fun x => X x ∨ x = pb)) ∧ Hid (Stay (fun x => X x ∨ x = pb) w1 w2))
 case atStart => exact ⟨0, d, v, rfl, hid (by omega), hid (Nat.zero_le _), hid rfl, hid (by have := HWL.out; omega), hid (by have := HLL.out; omega), HO1, hid ⟨nl _, fun _ _ => rfl⟩⟩
 case round =>
 obtain ⟨j, D, V, rfl, hgk, hj, hws, hDW, hVL, hO, hS⟩ := hrel
 rename World => w2
 have HKB : Hid (∀ b, (X b ∨ b < w.heap.size) → b < w1.heap.size → w2.heap[b]? = w1.heap[b]?) := hid (fun b hb _ => by
  rcases hb with hb | hb
  · exact hS.out.2 b (.inl hb)
  · exact (hO.out.below.block b hb).trans (HO1.out.below.block b hb).symm)
 have hP2 := HP1.out.keep (hS.out.2 pb (.inr rfl))
 have HP2 := hid hP2
 have HM2 := hid (HM1.out.keep (hS.out.2 pm (.inl HPX.out)))
 rcases Nat.lt_or_ge j n with hlt | hge
 · have HJN := hid hlt
   have hjl : j < l.length := by rw [HLN.out]; exact hlt
   have j1 : (0 : Int) ≤ (j : Int) := by omega
   have j2 : (j : Int) < (n : Int) := by omega
   have j3 : decide ((j : Int) < (n : Int)) = true := by simpa using hlt
   have j4 : decide (j < n) = true := by simpa using hlt
   have wj : wrap64 ((j : Int) + 1) = ((j + 1 : Nat) : Int) := by have := HN.out; unfold wrap64; omega
   obtain ⟨lb, off, rfl, -, hbl, hr0, hx0⟩ := (HC1.out.keep hS.out.1 HKB.out).at_ hjl
   have HX := hid hx0
   have HXM := hid (List.getElem_mem hjl)
   have HTK := hid (List.take_succ_eq_append_getElem hjl)
   have HPU := hid (@lyW_snoc nx (l.take j) l[j])
   rw [← HTK.out] at HPU
   generalize l[j] = x at *
   obtain ⟨c0, c1, c2, c3, c4, c5⟩ := range6 hr0
   have hb2 : Below w2.heap.size w2 (w2.alloc (.cells #[.string (str (x).nm), .int .i64 (x).k.t, .int .i64 (x).k.c, .int .i64 (x).k.e, .slice (x).A (x).n (x).c, .bool (x).dr] 94)) := (Below.refl _ _).alloc (nl _) _
   have hk2 := Blk.new w2 94 #[.string (str (x).nm), .int .i64 (x).k.t, .int .i64 (x).k.c, .int .i64 (x).k.e, .slice (x).A (x).n (x).c, .bool (x).dr]
   have HK2 := hid hk2
   have HO2 := hid (hO.out.add (HOK.out _ (TS.ok _ _ _ _ _ _ _ _ _ _)) hb2 (Y := fun x => x = w2.heap.size) (fun x hx => by subst hx; simp))
   obtain ⟨x0, x1, x2, x3, x4, x5⟩ := hcB_cells (x := x) hk2
   have hP3 := hP2.keep (hb2.block pb hP2.lt)
   have HP3 := hid hP3
   have hM3 := (HM2.out.bel hb2).get HX.out.nm
   have HST2 : Hid (Stay (fun x => X x ∨ x = pb) w1 (w2.alloc (.cells #[.string (str (x).nm), .int .i64 (x).k.t, .int .i64 (x).k.c, .int .i64 (x).k.e, .slice (x).A (x).n (x).c, .bool (x).dr] 94))) := hid (hS.out.trans (hO.out.stay hb2))
   clear hlt hjl hbl hr0 hx0 hb2 hk2 HTK hP2
   obtain ⟨p0, p2⟩ : w2.cell? ⟨pb, 0, none⟩ = some (.map (some pm)) ∧ w2.cell? ⟨pb, 2, none⟩ = some (.slice DA Dn Dc) := ⟨(HP2.out.cell 0).trans rfl, (HP2.out.cell 2).trans rfl⟩
   obtain ⟨y0, y2⟩ : (w2.alloc (.cells #[.string (str (x).nm), .int .i64 (x).k.t, .int .i64 (x).k.c, .int .i64 (x).k.e, .slice (x).A (x).n (x).c, .bool (x).dr] 94)).cell? ⟨pb, 0, none⟩ = some (.map (some pm)) ∧ (w2.alloc (.cells #[.string (str (x).nm), .int .i64 (x).k.t, .int .i64 (x).k.c, .int .i64 (x).k.e, .slice (x).A (x).n (x).c, .bool (x).dr] 94)).cell? ⟨pb, 2, none⟩ = some (.slice DA Dn Dc) := ⟨(hP3.cell 0).trans rfl, (hP3.cell 2).trans rfl⟩
   clear hP3
   cases hdr : x.dr
   case true =>
    have HDE : Hid ((w2.alloc (.cells #[.string (str x.nm), .int .i64 x.k.t, .int .i64 x.k.c, .int .i64 x.k.e, .slice x.A x.n x.c, .bool true] 94)) = w2.alloc (.cells #[.string (str (x).nm), .int .i64 (x).k.t, .int .i64 (x).k.c, .int .i64 (x).k.e, .slice (x).A (x).n (x).c, .bool (x).dr] 94)) := hid (by rw [hdr])
    rw [hdr] at c5 HPU
    have HWS : Hid (wrs (lyW nx (l.take (j + 1))) d v = (0, D, V)) := hid (by rw [HPU.out]; simp only [if_pos]; rw [List.append_nil]; exact hws.out)
    clear hdr hws x0 x1 x2 x3 x4 x5 y0 y2 hM3
    go_wp2_with fail
    rw [HDE.out]
    go_roundg (n - (j + 1))
    case measure => have := hgk.out; have := HJN.out; omega
    case rel => exact ⟨j + 1, D, V, by first | rfl | rw [wj], hid rfl, hid HJN.out, HWS, hid (by have := hDW.out; omega), hid (by have := hVL.out; omega), hid (HO2.out.less fun y hy => .inl hy), HST2⟩
   case false =>
   have HDR := hid hdr
   have HIB := HIN.out x HXM.out hdr
   have HYN : Hid (getB nx x.nm ∈ nx) := hid (by
    unfold isB at HIB
    unfold getB
    cases hf : fnd nx x.nm with
    | none => rw [hf] at HIB; cases HIB
    | some y => exact (fnd_some hf).1)
   have HYW := hid (HNX.out _ HYN.out)
   have HDE : Hid ((w2.alloc (.cells #[.string (str x.nm), .int .i64 x.k.t, .int .i64 x.k.c, .int .i64 x.k.e, .slice x.A x.n x.c, .bool false] 94)) = w2.alloc (.cells #[.string (str (x).nm), .int .i64 (x).k.t, .int .i64 (x).k.c, .int .i64 (x).k.e, .slice (x).A (x).n (x).c, .bool (x).dr] 94)) := hid (by rw [hdr])
   rw [hdr] at c5 HPU hM3 y0 y2 x0 x1 x2 x3 x4 x5
   generalize getB nx x.nm = y at *
   have hM4 : (Instr.lookup 122 (.map (some pm)) (.string (str x.nm)) false).run Tryz.prog (w2.alloc (.cells #[.string (str x.nm), .int .i64 x.k.t, .int .i64 x.k.c, .int .i64 x.k.e, .slice x.A x.n x.c, .bool false] 94)) = .ok (.agg #[.string (str (y).nm), .int .i64 (y).k.t, .int .i64 (y).k.c, .int .i64 (y).k.e, .int .i64 (y).b, .int .i64 (y).p.k.t, .int .i64 (y).p.k.c, .int .i64 (y).p.k.e, .int .i64 (y).p.id, .int .i64 (y).p.ver, .int .i64 (y).sz]) (w2.alloc (.cells #[.string (str x.nm), .int .i64 x.k.t, .int .i64 x.k.c, .int .i64 x.k.e, .slice x.A x.n x.c, .bool false] 94)) := hM3
   clear hdr HIB hM3
   go_wp2_with fail
   rw [HDE.out]
   clear HDE hM4 x0 x1 x2 x3 x4 x5 y0 y2 c0 c1 c2 c3 c4 c5 p0 p2
   have hb3 : Below (w2.alloc (.cells #[.string (str (x).nm), .int .i64 (x).k.t, .int .i64 (x).k.c, .int .i64 (x).k.e, .slice (x).A (x).n (x).c, .bool (x).dr] 94)).heap.size (w2.alloc (.cells #[.string (str (x).nm), .int .i64 (x).k.t, .int .i64 (x).k.c, .int .i64 (x).k.e, .slice (x).A (x).n (x).c, .bool (x).dr] 94)) ((w2.alloc (.cells #[.string (str (x).nm), .int .i64 (x).k.t, .int .i64 (x).k.c, .int .i64 (x).k.e, .slice (x).A (x).n (x).c, .bool (x).dr] 94)).alloc (.cells #[.string (str (y).nm), .int .i64 (y).k.t, .int .i64 (y).k.c, .int .i64 (y).k.e, .int .i64 (y).b, .int .i64 (y).p.k.t, .int .i64 (y).p.k.c, .int .i64 (y).p.k.e, .int .i64 (y).p.id, .int .i64 (y).p.ver, .int .i64 (y).sz] 90)) := (Below.refl _ _).alloc (nl _) _
   have hse : (w2.alloc (.cells #[.string (str (x).nm), .int .i64 (x).k.t, .int .i64 (x).k.c, .int .i64 (x).k.e, .slice (x).A (x).n (x).c, .bool (x).dr] 94)).heap.size = w2.heap.size + 1 := by simp
   have HK9 : Hid (Blk ((w2.alloc (.cells #[.string (str (x).nm), .int .i64 (x).k.t, .int .i64 (x).k.c, .int .i64 (x).k.e, .slice (x).A (x).n (x).c, .bool (x).dr] 94)).alloc (.cells #[.string (str (y).nm), .int .i64 (y).k.t, .int .i64 (y).k.c, .int .i64 (y).k.e, .int .i64 (y).b, .int .i64 (y).p.k.t, .int .i64 (y).p.k.c, .int .i64 (y).p.k.e, .int .i64 (y).p.id, .int .i64 (y).p.ver, .int .i64 (y).sz] 90)).drew (w2.heap.size + 1) 90 #[.string (str (y).nm), .int .i64 (y).k.t, .int .i64 (y).k.c, .int .i64 (y).k.e, .int .i64 (y).b, .int .i64 (y).p.k.t, .int .i64 (y).p.k.c, .int .i64 (y).p.k.e, .int .i64 (y).p.id, .int .i64 (y).p.ver, .int .i64 (y).sz]) := hid (by
    have := Blk.new (w2.alloc (.cells #[.string (str (x).nm), .int .i64 (x).k.t, .int .i64 (x).k.c, .int .i64 (x).k.e, .slice (x).A (x).n (x).c, .bool (x).dr] 94)) 90 #[.string (str (y).nm), .int .i64 (y).k.t, .int .i64 (y).k.c, .int .i64 (y).k.e, .int .i64 (y).b, .int .i64 (y).p.k.t, .int .i64 (y).p.k.c, .int .i64 (y).p.k.e, .int .i64 (y).p.id, .int .i64 (y).p.ver, .int .i64 (y).sz]
    rw [hse] at this
    exact this)
   have HK8 : Hid (Blk ((w2.alloc (.cells #[.string (str (x).nm), .int .i64 (x).k.t, .int .i64 (x).k.c, .int .i64 (x).k.e, .slice (x).A (x).n (x).c, .bool (x).dr] 94)).alloc (.cells #[.string (str (y).nm), .int .i64 (y).k.t, .int .i64 (y).k.c, .int .i64 (y).k.e, .int .i64 (y).b, .int .i64 (y).p.k.t, .int .i64 (y).p.k.c, .int .i64 (y).p.k.e, .int .i64 (y).p.id, .int .i64 (y).p.ver, .int .i64 (y).sz] 90)).drew w2.heap.size 94 #[.string (str (x).nm), .int .i64 (x).k.t, .int .i64 (x).k.c, .int .i64 (x).k.e, .slice (x).A (x).n (x).c, .bool (x).dr]) := hid (HK2.out.keep (hb3.block _ HK2.out.lt))
   have HO4 := hid ((HO2.out.add (HOK.out _ (TS.ok _ _ _ _ _ _ _ _ _ _)) hb3 (Y := fun x => x = w2.heap.size + 1) (fun x hx => by subst hx; simp)).go (HOK.out _ (TS.ok _ _ _ _ _ _ _ _ _ _)) (wr' := ((w2.alloc (.cells #[.string (str (x).nm), .int .i64 (x).k.t, .int .i64 (x).k.c, .int .i64 (x).k.e, .slice (x).A (x).n (x).c, .bool (x).dr] 94)).alloc (.cells #[.string (str (y).nm), .int .i64 (y).k.t, .int .i64 (y).k.c, .int .i64 (y).k.e, .int .i64 (y).b, .int .i64 (y).p.k.t, .int .i64 (y).p.k.c, .int .i64 (y).p.k.e, .int .i64 (y).p.id, .int .i64 (y).p.ver, .int .i64 (y).sz] 90)).drew) ((Below.refl _ _).drew))
   have HST4 : Hid (Stay (fun x => X x ∨ x = pb) w1 ((w2.alloc (.cells #[.string (str (x).nm), .int .i64 (x).k.t, .int .i64 (x).k.c, .int .i64 (x).k.e, .slice (x).A (x).n (x).c, .bool (x).dr] 94)).alloc (.cells #[.string (str (y).nm), .int .i64 (y).k.t, .int .i64 (y).k.c, .int .i64 (y).k.e, .int .i64 (y).b, .int .i64 (y).p.k.t, .int .i64 (y).p.k.c, .int .i64 (y).p.k.e, .int .i64 (y).p.id, .int .i64 (y).p.ver, .int .i64 (y).sz] 90)).drew) := hid (HST2.out.trans ((HO2.out.less (Y := fun x => X x ∨ x = pb) fun x hx => .inl hx).stay hb3.drew))
   have HX4 : Hid (Bts ((w2.alloc (.cells #[.string (str (x).nm), .int .i64 (x).k.t, .int .i64 (x).k.c, .int .i64 (x).k.e, .slice (x).A (x).n (x).c, .bool (x).dr] 94)).alloc (.cells #[.string (str (y).nm), .int .i64 (y).k.t, .int .i64 (y).k.c, .int .i64 (y).k.e, .int .i64 (y).b, .int .i64 (y).p.k.t, .int .i64 (y).p.k.c, .int .i64 (y).p.k.e, .int .i64 (y).p.id, .int .i64 (y).p.ver, .int .i64 (y).sz] 90)).drew 0 ((w2.alloc (.cells #[.string (str (x).nm), .int .i64 (x).k.t, .int .i64 (x).k.c, .int .i64 (x).k.e, .slice (x).A (x).n (x).c, .bool (x).dr] 94)).alloc (.cells #[.string (str (y).nm), .int .i64 (y).k.t, .int .i64 (y).k.c, .int .i64 (y).k.e, .int .i64 (y).b, .int .i64 (y).p.k.t, .int .i64 (y).p.k.c, .int .i64 (y).p.k.e, .int .i64 (y).p.id, .int .i64 (y).p.ver, .int .i64 (y).sz] 90)).drew.heap.size x.A x.n x.body) := hid (by
    have h1 : Below w2.heap.size w2 ((w2.alloc (.cells #[.string (str (x).nm), .int .i64 (x).k.t, .int .i64 (x).k.c, .int .i64 (x).k.e, .slice (x).A (x).n (x).c, .bool (x).dr] 94)).alloc (.cells #[.string (str (y).nm), .int .i64 (y).k.t, .int .i64 (y).k.c, .int .i64 (y).k.e, .int .i64 (y).b, .int .i64 (y).p.k.t, .int .i64 (y).p.k.c, .int .i64 (y).p.k.e, .int .i64 (y).p.id, .int .i64 (y).p.ver, .int .i64 (y).sz] 90)).drew := (((Below.refl w2.heap.size w2).alloc (nl _) (.cells #[.string (str (x).nm), .int .i64 (x).k.t, .int .i64 (x).k.c, .int .i64 (x).k.e, .slice (x).A (x).n (x).c, .bool (x).dr] 94)).trans (hb3.mono (by simp))).drew
    exact (HX.out.b.below h1 (nl _)).wide (nl _) h1.size)
   have HBL : Hid (x.body.length = x.n) := hid HX.out.b.1
   have HSX := so_at (hC.comp (ts_s gd D gv V gc c)) HO4.out
   obtain ⟨mb, rb, k, s, hS4⟩ := HSX
   have HS4 := hid hS4
   clear hb3 hse HO2 HK2 HST2 hS4 hO hS HP2 HP3 HM2 HKB
   generalize w2.heap.size = b8 at *
   refine wp_region_held_drew (S := fun wx => wx.cell? ⟨gs, 0, none⟩ = some (.pointer (some ⟨gd, 0, none⟩)) ∧ wx.cell? ⟨gs, 1, none⟩ = some (.pointer (some ⟨gv, 0, none⟩)) ∧ Blk wx (b8 + 1) 90 #[.string (str (y).nm), .int .i64 (y).k.t, .int .i64 (y).k.c, .int .i64 (y).k.e, .int .i64 (y).b, .int .i64 (y).p.k.t, .int .i64 (y).p.k.c, .int .i64 (y).p.k.e, .int .i64 (y).p.id, .int .i64 (y).p.ver, .int .i64 (y).sz] ∧ Blk wx b8 94 #[.string (str (x).nm), .int .i64 (x).k.t, .int .i64 (x).k.c, .int .i64 (x).k.e, .slice (x).A (x).n (x).c, .bool (x).dr]) (by kernel_rfl) ⟨HS4.out.cells.1, HS4.out.cells.2.1, HK9.out, HK8.out⟩ (fun HS => ?_)
   generalize ((w2.alloc (.cells #[.string (str (x).nm), .int .i64 (x).k.t, .int .i64 (x).k.c, .int .i64 (x).k.e, .slice (x).A (x).n (x).c, .bool (x).dr] 94)).alloc (.cells #[.string (str (y).nm), .int .i64 (y).k.t, .int .i64 (y).k.c, .int .i64 (y).k.e, .int .i64 (y).b, .int .i64 (y).p.k.t, .int .i64 (y).p.k.c, .int .i64 (y).p.k.e, .int .i64 (y).p.id, .int .i64 (y).p.ver, .int .i64 (y).sz] 90)).drew = w4 at *
   refine qT 0 ?va0 ?ya0 HS ?ra0
   case ya0 =>
    refine qI fun wS hSw => ?_
    have y0 := hSw.1
    have y1 := hSw.2.1
    go_simp
    try with_reducible rfl
   try simp only [Act.put, zA]
   refine qT 1 ?va1 ?ya1 HS ?ra1
   case ya1 =>
    refine qI fun wS hSw => ?_
    have y0 := hSw.1
    have y1 := hSw.2.1
    go_simp
    try with_reducible rfl
   try simp only [Act.put, zA]
   refine qT 2 ?va2 ?ya2 HS ?ra2
   case ya2 =>
    refine qI fun wS hSw => ?_
    have y0 := hSw.1
    have y1 := hSw.2.1
    go_simp
    try with_reducible rfl
   try simp only [Act.put, zA]
   refine qT 3 ?va3 ?ya3 HS ?ra3
   case ya3 =>
    refine qI fun wS hSw => ?_
    have y0 := hSw.1
    have y1 := hSw.2.1
    go_simp
    try with_reducible rfl
   try simp only [Act.put, zA]
   refine qT 4 ?va4 ?ya4 HS ?ra4
   case ya4 =>
    refine qI fun wS hSw => ?_
    have y0 := hSw.1
    have y1 := hSw.2.1
    go_simp
    try with_reducible rfl
   try simp only [Act.put, zA]
   refine qT 5 ?va5 ?ya5 HS ?ra5
   case ya5 =>
    refine qI fun wS hSw => ?_
    have y0 := hSw.1
    have y1 := hSw.2.1
    go_simp
    try with_reducible rfl
   try simp only [Act.put, zA]
   refine qT 6 ?va6 ?ya6 HS ?ra6
   case ya6 =>
    refine qI fun wS hSw => ?_
    have y0 := hSw.1
    have y1 := hSw.2.1
    go_simp
    try with_reducible rfl
   try simp only [Act.put, zA]
   refine qT 7 ?va7 ?ya7 HS ?ra7
   case ya7 =>
    refine qI fun wS hSw => ?_
    have y0 := hSw.1
    have y1 := hSw.2.1
    go_simp
    try with_reducible rfl
   try simp only [Act.put, zA]
   refine qT 8 ?va8 ?ya8 HS ?ra8
   case ya8 =>
    refine qI fun wS hSw => ?_
    have y0 := hSw.1
    have y1 := hSw.2.1
    go_simp
    try with_reducible rfl
   try simp only [Act.put, zA]
   refine qT 9 ?va9 ?ya9 HS ?ra9
   case ya9 =>
    refine qI fun wS hSw => ?_
    have y4 := (bbB_cells (x := y) hSw.2.2.1).2.2.2.2.1
    go_simp
    try with_reducible rfl
   try simp only [Act.put, zA]
   refine qT 10 ?va10 ?ya10 HS ?ra10
   case ya10 => refine qI fun wS hSw => ?_; go_simp; try with_reducible rfl
   try simp only [Act.put, zA]
   refine qT 11 ?va11 ?ya11 HS ?ra11
   case ya11 =>
    refine qI fun wS hSw => ?_
    refine Eq.trans (exec_loadP (.tmp 34) ?_ ?_ hSw.2.2.1) ?_
    all_goals rfl
   try simp only [Act.put, zA]
   refine qT 12 ?va12 ?ya12 HS ?ra12
   case ya12 => refine qI fun wS hSw => ?_; go_simp; try with_reducible rfl
   try simp only [Act.put, zA]
   refine qT 13 ?va13 ?ya13 HS ?ra13
   case ya13 =>
    refine qI fun wS hSw => ?_
    refine Eq.trans (exec_load1 51 (.tmp 36) ?_ Tryz.underlying51 ?_ (hcB_cells (x := x) hSw.2.2.2).2.2.2.2.1) ?_
    all_goals rfl
   try simp only [Act.put, zA]
   refine qR 14 fun K hK => ?_
   go_simp
   refine (pwrite_on (hC.comp ((ts_t gs gd gv gc m L dn).comp (tc_p gc c))) HO4.out y.p ⟨by rw [HYW.out.2]; exact HYW.out.1.2.1, HYW.out.1.2.2.2.1, HYW.out.1.2.2.2.2.1⟩ y.b HYW.out.1.2.2.1 x.A x.n x.c x.body HX4.out (by have := hDW.out; have := HN.out; have := HJN.out; omega) (by have := hVL.out; have := HN.out; have := HJN.out; omega)).mono ?_
   rintro e w6 ⟨rfl, hv6, hk6⟩
   have HO6 := hid hv6
   have HST6 := hid (HST4.out.trans (hk6.less fun z hz => .inl (.inl hz)))
   have HK6 := hid (HK9.out.keep (hk6.2 _ (.inr rfl)))
   have HK7 := hid (HK8.out.keep (hk6.2 _ (.inl (.inr rfl))))
   obtain ⟨mb6, rb6, kb6, s6, hS6⟩ := so_at (hC.comp (ts_s gd _ gv _ gc c)) HO6.out
   have HS6 := hid hS6
   clear hv6 hk6 hS6 HO4 HST4 HK9 HK8 HS4 HX4
   refine hK.out _ _ ⟨HS6.out.cells.1, HS6.out.cells.2.1, HK6.out, HK7.out⟩ (fun HS => ?_)
   clear hK K
   try simp only [Act.put, zA]
   refine qT 15 ?va15 ?ya15 HS ?ra15
   case ya15 => refine qI fun wS hSw => ?_; go_simp; try with_reducible rfl
   try simp only [Act.put, zA]
   refine qD ?_
   clear HS HS6 HK6 HK7
   obtain ⟨w0, h0⟩ : ∃ w0, w0 = w6 := ⟨_, rfl⟩
   clear h0
   have HWS0 : Hid (wrs (lyW nx (l.take (j + 1))) d v = (pwE D V y.b y.p x.body.length, pwD D V y.b y.p x.body.length, pwV D V y.b y.p x.body)) := hid (by
    rw [HPU.out, wrs_app, hws.out]
    show (if (0 : Int) ≠ 0 then _ else wrs [(y, x.body)] D V) = _
    rw [if_neg (by decide), wrs_one])
   have HDW2 := hid (pwD_W D V y.b y.p x.body.length)
   have HVL2 := hid (pwV_L D V y.b y.p x.body).1
   generalize pwE D V y.b y.p x.body.length = E5 at *
   generalize pwD D V y.b y.p x.body.length = D5 at *
   generalize pwV D V y.b y.p x.body = V5 at *
   by_cases h0 : E5 = 0
   · subst h0
     clear hws
     go_wp2_with fail
     go_roundg (n - (j + 1))
     case measure => have := hgk.out; have := HJN.out; omega
     case rel => exact ⟨j + 1, D5, V5, by first | rfl | rw [wj], hid rfl, hid HJN.out, HWS0, hid (by have := hDW.out; have := HDW2.out; omega), hid (by have := hVL.out; have := HVL2.out; omega), hid (HO6.out.less fun z hz => .inl (.inl hz)), HST6⟩
   · have HR : Hid (lyR d v c (lyW nx l) db = (E5, D5, V5, c)) := hid (by
      have hT : l = l.take (j + 1) ++ l.drop (j + 1) := (List.take_append_drop _ _).symm
      have hW : wrs (lyW nx l) d v = (E5, D5, V5) := by
       have : lyW nx l = lyW nx (l.take (j + 1)) ++ lyW nx (l.drop (j + 1)) := by
        conv => lhs; rw [hT]
        unfold lyW
        rw [List.filter_append, List.map_append]
       rw [this, wrs_app, HWS0.out]
       exact if_pos h0
      unfold lyR
      rw [hW]
      exact if_pos h0)
     have z1 : (E5 == 0) = false := beq_eq_false_iff_ne.2 h0
     have z2 : decide (E5 = 0) = false := decide_eq_false h0
     have z3 : (E5 != 0) = true := by rw [bne, z1]; rfl
     clear h0 hws
     go_wp2
     go_ret
     refine ⟨by rw [HR.out]; rfl, ?_, HST1.out.trans (HST6.out.less fun z hz => .inl hz)⟩
     rw [HR.out]
     exact HO6.out.less fun z hz => .inl (.inl (.inl hz))
 · have hjn : j = n := by have := hj.out; omega
   subst hjn
   have j2 : ¬ (j : Int) < (j : Int) := by omega
   have HT : Hid (l.take j = l) := hid (by rw [← HLN.out, List.take_length])
   have HR : Hid (lyR d v c (lyW nx l) db = (ptE D V c db.length, ptD D V c db.length, ptV D V c db, ptC D V c db.length)) := hid (by
    have hW := hws.out
    rw [HT.out] at hW
    unfold lyR
    rw [hW]
    exact if_neg (fun e => e rfl))
   have HO4 := hid (hO.out.go (HOK.out _ (TS.ok _ _ _ _ _ _ _ _ _ _)) (wr' := w2.drew) ((Below.refl _ _).drew))
   have HST4 : Hid (Stay (fun x => X x ∨ x = pb) w1 w2.drew) := hid (hS.out.trans ⟨nl _, fun _ _ => rfl⟩)
   have HP4 : Hid (Blk w2.drew pb 128 #[.map (some pm), .pointer (some ⟨rq, 0, none⟩), .slice DA Dn Dc]) := hid HP2.out
   have HD4 : Hid (Bts w2.drew 0 w2.drew.heap.size DA Dn db) := hid (HD1.out.at1 hS.out.1 fun u hu => hS.out.2 u (.inl (HDX.out u hu)))
   obtain ⟨mb, rb, k, s, hS4⟩ := so_at (hC.comp (ts_s gd D gv V gc c)) HO4.out
   have HS4 := hid hS4
   clear hge hj hgk hws hS4 hP2 HP2 HM2 HKB hO hS
   go_wp2_with fail
   refine wp_region_held_drew (S := fun wx => wx.cell? ⟨gs, 0, none⟩ = some (.pointer (some ⟨gd, 0, none⟩)) ∧ wx.cell? ⟨gs, 1, none⟩ = some (.pointer (some ⟨gv, 0, none⟩)) ∧ wx.cell? ⟨gs, 2, none⟩ = some (.pointer (some ⟨gc, 0, none⟩)) ∧ wx.cell? ⟨pb, 2, none⟩ = some (.slice DA Dn Dc)) (by kernel_rfl) ⟨HS4.out.cells.1, HS4.out.cells.2.1, HS4.out.cells.2.2.1, (HP4.out.cell 2).trans rfl⟩ (fun HS => ?_)
   generalize w2.drew = w4 at *
   refine qT 0 ?vb0 ?yb0 HS ?rb0
   case yb0 =>
    refine qI fun wS hSw => ?_
    have y0 := hSw.1
    have y1 := hSw.2.1
    have y2 := hSw.2.2.1
    have y3 := hSw.2.2.2
    go_simp
    try with_reducible rfl
   try simp only [Act.put, zA]
   refine qT 1 ?vb1 ?yb1 HS ?rb1
   case yb1 =>
    refine qI fun wS hSw => ?_
    have y0 := hSw.1
    have y1 := hSw.2.1
    have y2 := hSw.2.2.1
    have y3 := hSw.2.2.2
    go_simp
    try with_reducible rfl
   try simp only [Act.put, zA]
   refine qT 2 ?vb2 ?yb2 HS ?rb2
   case yb2 =>
    refine qI fun wS hSw => ?_
    have y0 := hSw.1
    have y1 := hSw.2.1
    have y2 := hSw.2.2.1
    have y3 := hSw.2.2.2
    go_simp
    try with_reducible rfl
   try simp only [Act.put, zA]
   refine qT 3 ?vb3 ?yb3 HS ?rb3
   case yb3 =>
    refine qI fun wS hSw => ?_
    have y0 := hSw.1
    have y1 := hSw.2.1
    have y2 := hSw.2.2.1
    have y3 := hSw.2.2.2
    go_simp
    try with_reducible rfl
   try simp only [Act.put, zA]
   refine qT 4 ?vb4 ?yb4 HS ?rb4
   case yb4 =>
    refine qI fun wS hSw => ?_
    have y0 := hSw.1
    have y1 := hSw.2.1
    have y2 := hSw.2.2.1
    have y3 := hSw.2.2.2
    go_simp
    try with_reducible rfl
   try simp only [Act.put, zA]
   refine qT 5 ?vb5 ?yb5 HS ?rb5
   case yb5 =>
    refine qI fun wS hSw => ?_
    have y0 := hSw.1
    have y1 := hSw.2.1
    have y2 := hSw.2.2.1
    have y3 := hSw.2.2.2
    go_simp
    try with_reducible rfl
   try simp only [Act.put, zA]
   refine qT 6 ?vb6 ?yb6 HS ?rb6
   case yb6 =>
    refine qI fun wS hSw => ?_
    have y0 := hSw.1
    have y1 := hSw.2.1
    have y2 := hSw.2.2.1
    have y3 := hSw.2.2.2
    go_simp
    try with_reducible rfl
   try simp only [Act.put, zA]
   refine qT 7 ?vb7 ?yb7 HS ?rb7
   case yb7 =>
    refine qI fun wS hSw => ?_
    have y0 := hSw.1
    have y1 := hSw.2.1
    have y2 := hSw.2.2.1
    have y3 := hSw.2.2.2
    go_simp
    try with_reducible rfl
   try simp only [Act.put, zA]
   refine qT 8 ?vb8 ?yb8 HS ?rb8
   case yb8 =>
    refine qI fun wS hSw => ?_
    have y0 := hSw.1
    have y1 := hSw.2.1
    have y2 := hSw.2.2.1
    have y3 := hSw.2.2.2
    go_simp
    try with_reducible rfl
   try simp only [Act.put, zA]
   refine qT 9 ?vb9 ?yb9 HS ?rb9
   case yb9 =>
    refine qI fun wS hSw => ?_
    have y0 := hSw.1
    have y1 := hSw.2.1
    have y2 := hSw.2.2.1
    have y3 := hSw.2.2.2
    go_simp
    try with_reducible rfl
   try simp only [Act.put, zA]
   refine qT 10 ?vb10 ?yb10 HS ?rb10
   case yb10 =>
    refine qI fun wS hSw => ?_
    have y0 := hSw.1
    have y1 := hSw.2.1
    have y2 := hSw.2.2.1
    have y3 := hSw.2.2.2
    go_simp
    try with_reducible rfl
   try simp only [Act.put, zA]
   refine qT 11 ?vb11 ?yb11 HS ?rb11
   case yb11 =>
    refine qI fun wS hSw => ?_
    have y0 := hSw.1
    have y1 := hSw.2.1
    have y2 := hSw.2.2.1
    have y3 := hSw.2.2.2
    go_simp
    try with_reducible rfl
   try simp only [Act.put, zA]
   refine qT 12 ?vb12 ?yb12 HS ?rb12
   case yb12 =>
    refine qI fun wS hSw => ?_
    have y0 := hSw.1
    have y1 := hSw.2.1
    have y2 := hSw.2.2.1
    have y3 := hSw.2.2.2
    go_simp
    try with_reducible rfl
   try simp only [Act.put, zA]
   refine qT 13 ?vb13 ?yb13 HS ?rb13
   case yb13 =>
    refine qI fun wS hSw => ?_
    refine Eq.trans (exec_load1 51 (.tmp 55) ?_ Tryz.underlying51 ?_ hSw.2.2.2) ?_
    all_goals rfl
   try simp only [Act.put, zA]
   refine qR 14 fun K hK => ?_
   go_simp
   refine (put_on (hC.comp (ts_t gs gd gv gc m L dn)) (fun P hP => HOK.out _ (hP.and (StO.ok _ _ _ _ _ _ _))) HO4.out DA Dn Dc db HD4.out (by have := hDW.out; have := HN.out; omega) (by have := hVL.out; have := HN.out; omega) HV.out).mono ?_
   rintro e w6 ⟨rfl, hv6, hk6⟩
   have HO6 := hid hv6
   have HST6 := hid (HST4.out.trans hk6)
   have HP6 := hid (HP4.out.keep (hk6.2 _ (.inr rfl)))
   obtain ⟨mb6, rb6, kb6, s6, hS6⟩ := so_at (hC.comp (ts_s gd _ gv _ gc _)) HO6.out
   have HS6 := hid hS6
   clear hv6 hk6 hS6 HO4 HST4 HP4 HS4 HD4
   refine hK.out _ _ ⟨HS6.out.cells.1, HS6.out.cells.2.1, HS6.out.cells.2.2.1, (HP6.out.cell 2).trans rfl⟩ (fun HS => ?_)
   clear hK K
   try simp only [Act.put, zA]
   refine qT 15 ?vb15 ?yb15 HS ?rb15
   case yb15 => refine qI fun wS hSw => ?_; go_simp; try with_reducible rfl
   try simp only [Act.put, zA]
   refine qD ?_
   clear HS HS6 HP6
   go_wp2
   go_ret
   refine ⟨by rw [HR.out]; rfl, ?_, HST1.out.trans (HST6.out.less fun z hz => .inl hz)⟩
   rw [HR.out]
   exact HO6.out.less fun z hz => .inl hz
end
end Go.Proofs.YtolaojkcofbkhaaGreat
