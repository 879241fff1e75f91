/- What Copy of a map returns: a map of its own. -/
import Derived.Test.YtolaojkcofbkhaaGreatSpA
namespace Go.Proofs.YtolaojkcofbkhaaGreat
open Go.RowKit

/-- make([]bool, n), op level. -/
theorem wp_makeB {op : Oper} {a : Act} {w : World} {K : Act → World → Prop} {Q : Exit → Act → World → Prop} (l c : Operand) (ho : op.op = .makeSlice 52 l c) (n : Nat) (hl : a.eval l = .int .i64 (n : Int)) (hc : a.eval c = .int .i64 (n : Int)) (hn : n ≤ 4096)
    (h : K (a.put op.dst (.slice (some ⟨w.heap.size, 0, none⟩) n n)) (w.alloc (.cells (bls (tf n 0)).toArray 4))) : op.wp Tryz.prog a w K Q := by
  obtain ⟨i, hi, hz0, hz1, hz2⟩ := info_parts Tryz.infoBool
  have hrun := run_make (P := Tryz.prog) w 52 4 i (.bool false) Tryz.underlying52 hi hz0 .i64 .i64 n n (by omega) (by omega) (by rw [hz2]; omega) (by omega)
  rw [Int.toNat_natCast, hz1, Nat.mul_one] at hrun
  have hcells : madeCells (Value.bool false).cells n = (bls (tf n 0)).toArray := by
    apply Array.toList_inj.1
    show (madeCells #[Value.bool false] n).toList = _
    rw [toList_madeCells_one]
    simp [bls, tf]
  rw [hcells] at hrun
  unfold Oper.wp
  simp [execOp, ho, hl, hc, hrun, Result.andThen]
  exact h
/-- copy of a row of bools into a row of the same length. -/
theorem run_copyB (w : World) (ty : TypeId) (b a n : Nat) (l m : List Bool) (hl : l.length = n) (hm : m.length = n) (hr : Blk w a 4 (bls l).toArray) (ht : Blk w b 4 (bls m).toArray) :
    (Builtin.copy_ #[52, 52] ty #[.slice (some ⟨b, 0, none⟩) n n, .slice (some ⟨a, 0, none⟩) n n]).run Tryz.prog w = .ok (.int .i64 (n : Int)) (w.setCells b 0 (bls l)) := by
  have hi1 : (Tryz.prog.info? 4).map (·.size) = some 1 := by kernel_rfl
  have hlen : (bls l).length = n := by rw [bls_len]; exact hl
  have := run_copy_cells (P := Tryz.prog) w 52 52 ty 4 b 0 n n ⟨a, 0, none⟩ n n (bls l) Tryz.underlying52 hi1 (by rw [hlen]; exact (Nat.min_self n).symm) (fun j v hv => by rw [add_plain, hr.cell, Nat.zero_add, List.getElem?_toArray]; exact hv)
    (fun j hj => by rw [ht.cell, List.getElem?_toArray, Nat.zero_add, List.getElem?_eq_getElem (by rw [bls_len]; omega)]; rfl) (fun j hj => ht.frozen _) (fun u hu => by simp only [bls, List.mem_map] at hu; obtain ⟨c, _, rfl⟩ := hu; rfl)
  rw [hlen] at this
  exact this

set_option maxRecDepth 100000 in
theorem copy_nil (w : World) :
    Calls Tryz.prog 89 #[.pointer none] w fun e w' => e = .returned (.pointer none) ∧ w = w' := by
  go_enter Tryz.func89, Tryz.ntmps89
  go_wp2
  go_ret
  exact ⟨rfl, rfl⟩
set_option maxRecDepth 100000 in
set_option maxHeartbeats 2000000 in
theorem copy_c (w : World) (g k : Nat) (s : Sp) (h : Mp w g k s) :
    Calls Tryz.prog 89 #[.pointer (some ⟨g, 0, none⟩)] w fun e w' => ∃ g' k', e = .returned (.pointer (some ⟨g', 0, none⟩)) ∧ Mp w' g' k' s ∧ Below w.heap.size w w' ∧ w.heap.size ≤ g' ∧ w.heap.size ≤ k' := by
  have HM := hid h
  have HN : Hid (s.T.length ≤ 4096) := hid h.ok.n2
  have HLT : Hid (g < w.heap.size ∧ k < w.heap.size) := hid ⟨h.blk.lt, h.row.lt⟩
  obtain ⟨h0, h1⟩ := h.cells
  clear h
  generalize hn : s.T.length = n at *
  have HNE := hid hn
  clear hn
  go_enter Tryz.func89, Tryz.ntmps89
  go_wp2_with fail
  refine wp_region_held_drew (S := fun wx => wx.cell? ⟨g, 0, none⟩ = some (.slice (some ⟨k, 0, none⟩) n n) ∧ wx.cell? ⟨g, 1, none⟩ = some (.int .i64 (s.r : Int))) (by kernel_rfl) ⟨by simpa using h0, by simpa using h1⟩ (fun HS => ?_)
  refine wpAnyH_take (i := 0) (oi := ?oi0) (v := ?v0) ?hi0 (by kernel_rfl) (by kernel_rfl) (by kernel_rfl) ?hQ0 ?hy0 HS ?rest0
  case hi0 => simp only [List.getElem?_toArray, List.getElem?_cons_zero]; exact rfl
  case hQ0 => exact fun _ _ _ h => h
  case hy0 =>
    refine Or.inl ⟨by rfl, ?_⟩
    intro wS hSw
    go_simp
    try with_reducible rfl
  try simp only [Act.put, List.setIfInBounds_toArray, List.set_cons_zero, List.set_cons_succ]
  refine wpAnyH_take (i := 1) (oi := ?oi1) (v := ?v1) ?hi1 (by kernel_rfl) (by kernel_rfl) (by kernel_rfl) ?hQ1 ?hy1 HS ?rest1
  case hi1 => simp only [List.getElem?_toArray, List.getElem?_cons_succ, List.getElem?_cons_zero]; exact rfl
  case hQ1 => exact fun _ _ _ h => h
  case hy1 =>
    refine Or.inl ⟨by rfl, ?_⟩
    intro wS hSw
    go_simp
    try with_reducible rfl
  try simp only [Act.put, List.setIfInBounds_toArray, List.set_cons_zero, List.set_cons_succ]
  refine wpAnyH_take (i := 2) (oi := ?oi2) (v := ?v2) ?hi2 (by kernel_rfl) (by kernel_rfl) (by kernel_rfl) ?hQ2 ?hy2 HS ?rest2
  case hi2 => simp only [List.getElem?_toArray, List.getElem?_cons_succ, List.getElem?_cons_zero]; exact rfl
  case hQ2 => exact fun _ _ _ h => h
  case hy2 =>
    refine Or.inl ⟨by rfl, ?_⟩
    intro wS hSw
    go_simp
    try with_reducible rfl
  try simp only [Act.put, List.setIfInBounds_toArray, List.set_cons_zero, List.set_cons_succ]
  refine wpAnyH_take (i := 3) (oi := ?oi3) (v := ?v3) ?hi3 (by kernel_rfl) (by kernel_rfl) (by kernel_rfl) ?hQ3 ?hy3 HS ?rest3
  case hi3 => simp only [List.getElem?_toArray, List.getElem?_cons_succ, List.getElem?_cons_zero]; exact rfl
  case hQ3 => exact fun _ _ _ h => h
  case hy3 =>
    refine Or.inl ⟨by rfl, ?_⟩
    intro wS hSw
    obtain ⟨z0, z1⟩ := hSw
    go_simp
    try with_reducible rfl
  try simp only [Act.put, List.setIfInBounds_toArray, List.set_cons_zero, List.set_cons_succ]
  refine wpAnyH_take (i := 4) (oi := ?oi4) (v := ?v4) ?hi4 (by kernel_rfl) (by kernel_rfl) (by kernel_rfl) ?hQ4 ?hy4 HS ?rest4
  case hi4 => simp only [List.getElem?_toArray, List.getElem?_cons_succ, List.getElem?_cons_zero]; exact rfl
  case hQ4 => exact fun _ _ _ h => h
  case hy4 =>
    refine Or.inl ⟨by rfl, ?_⟩
    intro wS hSw
    go_simp
    try with_reducible rfl
  try simp only [Act.put, List.setIfInBounds_toArray, List.set_cons_zero, List.set_cons_succ]
  refine wpAnyH_take (i := 6) (oi := ?oi6) (v := ?v6) ?hi6 (by kernel_rfl) (by kernel_rfl) (by kernel_rfl) ?hQ6 ?hy6 HS ?rest6
  case hi6 => simp only [List.getElem?_toArray, List.getElem?_cons_succ, List.getElem?_cons_zero]; exact rfl
  case hQ6 => exact fun _ _ _ h => h
  case hy6 =>
    refine Or.inl ⟨by rfl, ?_⟩
    intro wS hSw
    go_simp
    try with_reducible rfl
  try simp only [Act.put, List.setIfInBounds_toArray, List.set_cons_zero, List.set_cons_succ]
  refine wpAnyH_take (i := 7) (oi := ?oi7) (v := ?v7) ?hi7 (by kernel_rfl) (by kernel_rfl) (by kernel_rfl) ?hQ7 ?hy7 HS ?rest7
  case hi7 => simp only [List.getElem?_toArray, List.getElem?_cons_succ, List.getElem?_cons_zero]; exact rfl
  case hQ7 => exact fun _ _ _ h => h
  case hy7 =>
    refine Or.inl ⟨by rfl, ?_⟩
    intro wS hSw
    go_simp
    try with_reducible rfl
  try simp only [Act.put, List.setIfInBounds_toArray, List.set_cons_zero, List.set_cons_succ]
  refine wpAnyH_take (i := 8) (oi := ?oi8) (v := ?v8) ?hi8 (by kernel_rfl) (by kernel_rfl) (by kernel_rfl) ?hQ8 ?hy8 HS ?rest8
  case hi8 => simp only [List.getElem?_toArray, List.getElem?_cons_succ, List.getElem?_cons_zero]; exact rfl
  case hQ8 => exact fun _ _ _ h => h
  case hy8 =>
    refine Or.inl ⟨by rfl, ?_⟩
    intro wS hSw
    go_simp
    try with_reducible rfl
  try simp only [Act.put, List.setIfInBounds_toArray, List.set_cons_zero, List.set_cons_succ]
  refine wpAnyH_take (i := 9) (oi := ?oi9) (v := ?v9) ?hi9 (by kernel_rfl) (by kernel_rfl) (by kernel_rfl) ?hQ9 ?hy9 HS ?rest9
  case hi9 => simp only [List.getElem?_toArray, List.getElem?_cons_succ, List.getElem?_cons_zero]; exact rfl
  case hQ9 => exact fun _ _ _ h => h
  case hy9 =>
    refine Or.inl ⟨by rfl, ?_⟩
    intro wS hSw
    obtain ⟨z0, z1⟩ := hSw
    go_simp
    try with_reducible rfl
  try simp only [Act.put, List.setIfInBounds_toArray, List.set_cons_zero, List.set_cons_succ]
  have HMd : Hid (Mp w.drew g k s) := hid (HM.out.bel ((Below.refl _ _).drew))
  have BD : Hid (Below w.heap.size w w.drew) := hid ((Below.refl _ _).drew)
  have z0 : Hid (w.drew.heap.size = w.heap.size) := hid rfl
  generalize w.drew = wd at *
  refine wpAnyH_ready (rs := [5]) (by kernel_rfl) (by simp) ?_
  refine AllReadyH.cons (o := ?o5) ?ho5 (fun K hK => ?step5) AllReadyH.nil
  case ho5 => simp only [List.getElem?_toArray, List.getElem?_cons_succ, List.getElem?_cons_zero]; exact rfl
  refine wp_makeB _ _ rfl n rfl rfl HN.out ?_
  have B1 : Hid (Below wd.heap.size wd (wd.alloc (.cells (bls (tf n 0)).toArray 4))) := hid ((Below.refl _ _).alloc (Nat.le_refl _) _)
  have M1 : Hid (Mp (wd.alloc (.cells (bls (tf n 0)).toArray 4)) g k s) := hid (HMd.out.bel B1.out)
  have K1 : Hid (Blk (wd.alloc (.cells (bls (tf n 0)).toArray 4)) wd.heap.size 4 (bls (tf n 0)).toArray) := hid (Blk.new _ _ _)
  have z1 : Hid ((wd.alloc (.cells (bls (tf n 0)).toArray 4)).heap.size = wd.heap.size + 1) := hid (by simp)
  generalize wd.alloc (.cells (bls (tf n 0)).toArray 4) = w1 at *
  have y0 := M1.out.cells
  rw [HNE.out] at y0
  refine hK.out _ _ y0 (fun HS => ?_)
  clear hK K
  try simp only [Act.put, List.setIfInBounds_toArray, List.set_cons_zero, List.set_cons_succ]
  refine wpAnyH_take (i := 10) (oi := ?oi10) (v := ?v10) ?hi10 (by kernel_rfl) (by kernel_rfl) (by kernel_rfl) ?hQ10 ?hy10 HS ?rest10
  case hi10 => simp only [List.getElem?_toArray, List.getElem?_cons_succ, List.getElem?_cons_zero]; exact rfl
  case hQ10 => exact fun _ _ _ h => h
  case hy10 =>
    refine Or.inl ⟨by rfl, ?_⟩
    intro wS hSw
    go_simp
    try with_reducible rfl
  try simp only [Act.put, List.setIfInBounds_toArray, List.set_cons_zero, List.set_cons_succ]
  refine wpAnyH_ready (rs := [11]) (by kernel_rfl) (by simp) ?_
  refine AllReadyH.cons (o := ?o11) ?ho11 (fun K hK => ?step11) AllReadyH.nil
  case ho11 => simp only [List.getElem?_toArray, List.getElem?_cons_succ, List.getElem?_cons_zero]; exact rfl
  go_simp
  have B2 : Hid (Below w1.heap.size w1 (w1.alloc (.cells #[.slice (some ⟨wd.heap.size, 0, none⟩) n n, .int .i64 (s.r : Int)] 173))) := hid ((Below.refl _ _).alloc (Nat.le_refl _) _)
  have M2 : Hid (Mp (w1.alloc (.cells #[.slice (some ⟨wd.heap.size, 0, none⟩) n n, .int .i64 (s.r : Int)] 173)) g k s) := hid (M1.out.bel B2.out)
  have K2 : Hid (Blk (w1.alloc (.cells #[.slice (some ⟨wd.heap.size, 0, none⟩) n n, .int .i64 (s.r : Int)] 173)) wd.heap.size 4 (bls (tf n 0)).toArray) := hid (K1.out.keep (B2.out.block _ K1.out.lt))
  have G2 : Hid (Blk (w1.alloc (.cells #[.slice (some ⟨wd.heap.size, 0, none⟩) n n, .int .i64 (s.r : Int)] 173)) w1.heap.size 173 #[.slice (some ⟨wd.heap.size, 0, none⟩) n n, .int .i64 (s.r : Int)]) := hid (Blk.new _ _ _)
  generalize w1.alloc (.cells #[.slice (some ⟨wd.heap.size, 0, none⟩) n n, .int .i64 (s.r : Int)] 173) = w2 at *
  have y2 := M2.out.cells
  rw [HNE.out] at y2
  refine hK.out _ _ y2 (fun HS => ?_)
  clear hK K
  try simp only [Act.put, List.setIfInBounds_toArray, List.set_cons_zero, List.set_cons_succ]
  refine wpAnyH_take (i := 12) (oi := ?oi12) (v := ?v12) ?hi12 (by kernel_rfl) (by kernel_rfl) (by kernel_rfl) ?hQ12 ?hy12 HS ?rest12
  case hi12 => simp only [List.getElem?_toArray, List.getElem?_cons_succ, List.getElem?_cons_zero]; exact rfl
  case hQ12 => exact fun _ _ _ h => h
  case hy12 =>
    refine Or.inl ⟨by rfl, ?_⟩
    intro wS hSw
    go_simp
    try with_reducible rfl
  try simp only [Act.put, List.setIfInBounds_toArray, List.set_cons_zero, List.set_cons_succ]
  refine wpAnyH_done (by kernel_rfl) ?_ _
  clear HS HM
  have HB2 : Hid (Below w.heap.size w w2) := hid ((BD.out.trans (B1.out.mono (Nat.le_of_eq z0.out.symm))).trans (B2.out.mono (by have := z0.out; have := z1.out; omega)))
  generalize hk1 : wd.heap.size = k1 at *
  generalize hg1 : w1.heap.size = g1 at *
  have hgk : g1 ≠ k1 := by have := z1.out; omega
  have HKG : Hid (w.heap.size ≤ k1 ∧ w.heap.size ≤ g1 ∧ g1 ≠ k1) := hid ⟨by have := z0.out; omega, by have := z0.out; have := z1.out; omega, hgk⟩
  clear hgk z1 z0 BD B1 B2 M1 K1 HMd hk1 hg1 y0 h0 h1
  go_wp2_with fail
  have M3 : Hid (Mp w2.drew g k s) := hid (M2.out.bel ((Below.refl _ _).drew))
  have K3 : Hid (Blk w2.drew k1 4 (bls (tf n 0)).toArray) := hid K2.out
  have G3 : Hid (Blk w2.drew g1 173 #[.slice (some ⟨k1, 0, none⟩) n n, .int .i64 (s.r : Int)]) := hid G2.out
  have B3 : Hid (Below w.heap.size w w2.drew) := hid HB2.out.drew
  obtain ⟨x0, -⟩ := M3.out.cells
  rw [HNE.out] at x0
  have x1 : w2.drew.cell? ⟨g1, 0, none⟩ = some (.slice (some ⟨k1, 0, none⟩) n n) := by have := G3.out.cell 0; simpa using this
  refine wp_region_held_drew (S := fun wx => wx.cell? ⟨g1, 0, none⟩ = some (.slice (some ⟨k1, 0, none⟩) n n) ∧ wx.cell? ⟨g, 0, none⟩ = some (.slice (some ⟨k, 0, none⟩) n n)) (by kernel_rfl) ⟨x1, x0⟩ (fun HS => ?_)
  clear M2 K2 G2 HB2 y2
  generalize w2.drew = w3 at *
  refine wpAnyH_take (i := 0) (oi := ?oib0) (v := ?vb0) ?hib0 (by kernel_rfl) (by kernel_rfl) (by kernel_rfl) ?hQb0 ?hyb0 HS ?restb0
  case hib0 => simp only [List.getElem?_toArray, List.getElem?_cons_zero]; exact rfl
  case hQb0 => exact fun _ _ _ h => h
  case hyb0 =>
    refine Or.inl ⟨by rfl, ?_⟩
    intro wS hSw
    go_simp
    try with_reducible rfl
  try simp only [Act.put, List.setIfInBounds_toArray, List.set_cons_zero, List.set_cons_succ]
  refine wpAnyH_take (i := 1) (oi := ?oib1) (v := ?vb1) ?hib1 (by kernel_rfl) (by kernel_rfl) (by kernel_rfl) ?hQb1 ?hyb1 HS ?restb1
  case hib1 => simp only [List.getElem?_toArray, List.getElem?_cons_succ, List.getElem?_cons_zero]; exact rfl
  case hQb1 => exact fun _ _ _ h => h
  case hyb1 =>
    refine Or.inl ⟨by rfl, ?_⟩
    intro wS hSw
    go_simp
    try with_reducible rfl
  try simp only [Act.put, List.setIfInBounds_toArray, List.set_cons_zero, List.set_cons_succ]
  refine wpAnyH_take (i := 2) (oi := ?oib2) (v := ?vb2) ?hib2 (by kernel_rfl) (by kernel_rfl) (by kernel_rfl) ?hQb2 ?hyb2 HS ?restb2
  case hib2 => simp only [List.getElem?_toArray, List.getElem?_cons_succ, List.getElem?_cons_zero]; exact rfl
  case hQb2 => exact fun _ _ _ h => h
  case hyb2 =>
    refine Or.inl ⟨by rfl, ?_⟩
    intro wS hSw
    go_simp
    try with_reducible rfl
  try simp only [Act.put, List.setIfInBounds_toArray, List.set_cons_zero, List.set_cons_succ]
  refine wpAnyH_take (i := 3) (oi := ?oib3) (v := ?vb3) ?hib3 (by kernel_rfl) (by kernel_rfl) (by kernel_rfl) ?hQb3 ?hyb3 HS ?restb3
  case hib3 => simp only [List.getElem?_toArray, List.getElem?_cons_succ, List.getElem?_cons_zero]; exact rfl
  case hQb3 => exact fun _ _ _ h => h
  case hyb3 =>
    refine Or.inl ⟨by rfl, ?_⟩
    intro wS hSw
    obtain ⟨z0, z1⟩ := hSw
    go_simp
    try with_reducible rfl
  try simp only [Act.put, List.setIfInBounds_toArray, List.set_cons_zero, List.set_cons_succ]
  refine wpAnyH_take (i := 4) (oi := ?oib4) (v := ?vb4) ?hib4 (by kernel_rfl) (by kernel_rfl) (by kernel_rfl) ?hQb4 ?hyb4 HS ?restb4
  case hib4 => simp only [List.getElem?_toArray, List.getElem?_cons_succ, List.getElem?_cons_zero]; exact rfl
  case hQb4 => exact fun _ _ _ h => h
  case hyb4 =>
    refine Or.inl ⟨by rfl, ?_⟩
    intro wS hSw
    go_simp
    try with_reducible rfl
  try simp only [Act.put, List.setIfInBounds_toArray, List.set_cons_zero, List.set_cons_succ]
  refine wpAnyH_take (i := 5) (oi := ?oib5) (v := ?vb5) ?hib5 (by kernel_rfl) (by kernel_rfl) (by kernel_rfl) ?hQb5 ?hyb5 HS ?restb5
  case hib5 => simp only [List.getElem?_toArray, List.getElem?_cons_succ, List.getElem?_cons_zero]; exact rfl
  case hQb5 => exact fun _ _ _ h => h
  case hyb5 =>
    refine Or.inl ⟨by rfl, ?_⟩
    intro wS hSw
    go_simp
    try with_reducible rfl
  try simp only [Act.put, List.setIfInBounds_toArray, List.set_cons_zero, List.set_cons_succ]
  refine wpAnyH_take (i := 6) (oi := ?oib6) (v := ?vb6) ?hib6 (by kernel_rfl) (by kernel_rfl) (by kernel_rfl) ?hQb6 ?hyb6 HS ?restb6
  case hib6 => simp only [List.getElem?_toArray, List.getElem?_cons_succ, List.getElem?_cons_zero]; exact rfl
  case hQb6 => exact fun _ _ _ h => h
  case hyb6 =>
    refine Or.inl ⟨by rfl, ?_⟩
    intro wS hSw
    go_simp
    try with_reducible rfl
  try simp only [Act.put, List.setIfInBounds_toArray, List.set_cons_zero, List.set_cons_succ]
  refine wpAnyH_take (i := 7) (oi := ?oib7) (v := ?vb7) ?hib7 (by kernel_rfl) (by kernel_rfl) (by kernel_rfl) ?hQb7 ?hyb7 HS ?restb7
  case hib7 => simp only [List.getElem?_toArray, List.getElem?_cons_succ, List.getElem?_cons_zero]; exact rfl
  case hQb7 => exact fun _ _ _ h => h
  case hyb7 =>
    refine Or.inl ⟨by rfl, ?_⟩
    intro wS hSw
    obtain ⟨z0, z1⟩ := hSw
    go_simp
    try with_reducible rfl
  try simp only [Act.put, List.setIfInBounds_toArray, List.set_cons_zero, List.set_cons_succ]
  have hcp := run_copyB w3 3 k1 k n s.T (tf n 0) HNE.out (tf_len n 0 (Nat.zero_le _)) M3.out.row K3.out
  have HF : Hid (Mp (w3.setCells k1 0 (bls s.T)) g1 k1 s ∧ Below w.heap.size w (w3.setCells k1 0 (bls s.T)) ∧ Mp (w3.setCells k1 0 (bls s.T)) g k s) := hid (by
    have hgr := grown_setCells k1 (bls s.T) 0 w3
    refine ⟨⟨?_, K3.out.setAll (bls s.T) (by rw [bls_len, HNE.out]; simp [bls_len, tf_len]), M3.out.ok⟩, B3.out.grown hgr B3.out.size (fun x hx => by injection hx with hx; have := HKG.out; omega), M3.out.kp (Kp.setCells (F := fun j => j = k1) w3 k1 0 _ rfl) (by have := HKG.out; have := HLT.out; omega) (by have := HKG.out; have := HLT.out; omega)⟩
    rw [HNE.out]
    exact G3.out.keep (hgr.block g1 G3.out.lt (fun e => by injection e with e; exact HKG.out.2.2 e)))
  clear M3 K3 G3 B3 x0 x1
  generalize w3.setCells k1 0 (bls s.T) = w4 at *
  have u0 := HF.out.1.cells
  have u1 := HF.out.2.2.cells
  rw [HNE.out] at u0 u1
  refine wpAnyH_ready (rs := [8]) (by kernel_rfl) (by simp) ?_
  refine AllReadyH.cons (o := ?ob8) ?hob8 (fun K hK => ?stepb8) AllReadyH.nil
  case hob8 => simp only [List.getElem?_toArray, List.getElem?_cons_succ, List.getElem?_cons_zero]; exact rfl
  go_simp
  refine hK.out _ _ ⟨u0.1, u1.1⟩ (fun HS => ?_)
  clear hK K
  try simp only [Act.put, List.setIfInBounds_toArray, List.set_cons_zero, List.set_cons_succ]
  refine wpAnyH_done (by kernel_rfl) ?_ _
  go_wp2
  go_ret
  exact ⟨g1, k1, rfl, HF.out.1, HF.out.2.1, HKG.out.2.1, HKG.out.1⟩
end Go.Proofs.YtolaojkcofbkhaaGreat
