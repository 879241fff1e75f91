import Derived.Test.YtolaojkcofbkhaaGreatSpA
namespace Go.Proofs.YtolaojkcofbkhaaGreat
set_option maxRecDepth 100000
set_option maxHeartbeats 2000000
open Go.RowKit
theorem wp_makeB {op : Oper} {a : Act} {w : World} {K : Act → World → Prop} {Q : Exit → Act → World → Prop} (l c : Operand) (ho : op.op = .makeSlice 52 l c) (n : Nat) (hl : a.eval l = .int .i64 (n : Int)) (hc : a.eval c = .int .i64 (n : Int)) (hn : n ≤ 4096)
 (h : K (a.put op.dst (.slice (some ⟨w.heap.size, 0, none⟩) n n)) (w.alloc (.cells (bls (tf n 0)).toArray 4))) : op.wp Tryz.prog a w K Q := by
 obtain ⟨i, hi, hz0, hz1, hz2⟩ := info_parts Tryz.infoBool
 have hrun := run_make (P := Tryz.prog) w 52 4 i (.bool false) Tryz.underlying52 hi hz0 .i64 .i64 n n (by omega) (by omega) (by rw [hz2]; omega) (by omega)
 rw [Int.toNat_natCast, hz1, Nat.mul_one] at hrun
 have hcells : madeCells (Value.bool false).cells n = (bls (tf n 0)).toArray := by
  apply Array.toList_inj.1
  show (madeCells #[Value.bool false] n).toList = _
  rw [toList_madeCells_one]
  simp [bls, tf]
 rw [hcells] at hrun
 unfold Oper.wp
 simp [execOp, ho, hl, hc, hrun, Result.andThen]
 exact h
theorem run_copyB (w : World) (ty : TypeId) (b a n : Nat) (l m : List Bool) (hl : l.length = n) (hm : m.length = n) (hr : Blk w a 4 (bls l).toArray) (ht : Blk w b 4 (bls m).toArray) :
 (Builtin.copy_ #[52, 52] ty #[.slice (some ⟨b, 0, none⟩) n n, .slice (some ⟨a, 0, none⟩) n n]).run Tryz.prog w = .ok (.int .i64 (n : Int)) (w.setCells b 0 (bls l)) := by
 have hi1 : (Tryz.prog.info? 4).map (·.size) = some 1 := by kernel_rfl
 have hlen : (bls l).length = n := by rw [bls_len]; exact hl
 have := run_copy_cells (P := Tryz.prog) w 52 52 ty 4 b 0 n n ⟨a, 0, none⟩ n n (bls l) Tryz.underlying52 hi1 (by rw [hlen]; exact (Nat.min_self n).symm) (fun j v hv => by rw [add_plain, hr.cell, Nat.zero_add, List.getElem?_toArray]; exact hv)
  (fun j hj => by rw [ht.cell, List.getElem?_toArray, Nat.zero_add, List.getElem?_eq_getElem (by rw [bls_len]; omega)]; rfl) (fun j hj => ht.frozen _) (fun u hu => by simp only [bls, List.mem_map] at hu; obtain ⟨c, _, rfl⟩ := hu; rfl)
 rw [hlen] at this
 exact this
theorem copy_c (w : World) (g k : Nat) (s : Sp) (h : Mp w g k s) :
 Calls Tryz.prog 89 #[.pointer (some ⟨g, 0, none⟩)] w fun e w' => ∃ g' k', e = .returned (.pointer (some ⟨g', 0, none⟩)) ∧ Mp w' g' k' s ∧ Below w.heap.size w w' ∧ w.heap.size ≤ g' ∧ w.heap.size ≤ k' := by
 have HM := hid h
 have HN : Hid (s.T.length ≤ 4096) := hid h.ok.n2
 have HLT : Hid (g < w.heap.size ∧ k < w.heap.size) := hid ⟨h.blk.lt, h.row.lt⟩
 obtain ⟨h0, h1⟩ := h.cells
 clear h
 generalize hn : s.T.length = n at *
 have HNE := hid hn
 clear hn
 go_enter Tryz.func89, Tryz.ntmps89
 go_wp2_with fail
 refine wp_region_held_drew (S := fun wx => wx.cell? ⟨g, 0, none⟩ = some (.slice (some ⟨k, 0, none⟩) n n) ∧ wx.cell? ⟨g, 1, none⟩ = some (.int .i64 (s.r : Int))) (by kernel_rfl) ⟨by simpa using h0, by simpa using h1⟩ (fun HS => ?_)
 refine qT 0 ?v0 ?y0 HS ?r0
 case y0 => refine qI fun wS hSw => ?_; go_simp; try with_reducible rfl
 try simp only [Act.put, zA]
 refine qT 1 ?v1 ?y1 HS ?r1
 case y1 => refine qI fun wS hSw => ?_; go_simp; try with_reducible rfl
 try simp only [Act.put, zA]
 refine qT 2 ?v2 ?y2 HS ?r2
 case y2 => refine qI fun wS hSw => ?_; go_simp; try with_reducible rfl
 try simp only [Act.put, zA]
 refine qT 3 ?v3 ?y3 HS ?r3
 case y3 =>
  refine qI fun wS hSw => ?_
  obtain ⟨z0, z1⟩ := hSw
  go_simp
  try with_reducible rfl
 try simp only [Act.put, zA]
 refine qT 4 ?v4 ?y4 HS ?r4
 case y4 => refine qI fun wS hSw => ?_; go_simp; try with_reducible rfl
 try simp only [Act.put, zA]
 refine qT 6 ?v6 ?y6 HS ?r6
 case y6 => refine qI fun wS hSw => ?_; go_simp; try with_reducible rfl
 try simp only [Act.put, zA]
 refine qT 7 ?v7 ?y7 HS ?r7
 case y7 => refine qI fun wS hSw => ?_; go_simp; try with_reducible rfl
 try simp only [Act.put, zA]
 refine qT 8 ?v8 ?y8 HS ?r8
 case y8 => refine qI fun wS hSw => ?_; go_simp; try with_reducible rfl
 try simp only [Act.put, zA]
 refine qT 9 ?v9 ?y9 HS ?r9
 case y9 =>
  refine qI fun wS hSw => ?_
  obtain ⟨z0, z1⟩ := hSw
  go_simp
  try with_reducible rfl
 try simp only [Act.put, zA]
 have HMd : Hid (Mp w.drew g k s) := hid (HM.out.bel ((Below.refl _ _).drew))
 have BD : Hid (Below w.heap.size w w.drew) := hid ((Below.refl _ _).drew)
 have z0 : Hid (w.drew.heap.size = w.heap.size) := hid rfl
 generalize w.drew = wd at *
 refine qR 5 fun K hK => ?_
 refine wp_makeB _ _ rfl n rfl rfl HN.out ?_
 have B1 : Hid (Below wd.heap.size wd (wd.alloc (.cells (bls (tf n 0)).toArray 4))) := hid ((Below.refl _ _).alloc (nl _) _)
 have M1 : Hid (Mp (wd.alloc (.cells (bls (tf n 0)).toArray 4)) g k s) := hid (HMd.out.bel B1.out)
 have K1 : Hid (Blk (wd.alloc (.cells (bls (tf n 0)).toArray 4)) wd.heap.size 4 (bls (tf n 0)).toArray) := hid (Blk.new _ _ _)
 have z1 : Hid ((wd.alloc (.cells (bls (tf n 0)).toArray 4)).heap.size = wd.heap.size + 1) := hid (by simp)
 generalize wd.alloc (.cells (bls (tf n 0)).toArray 4) = w1 at *
 have y0 := M1.out.cells
 rw [HNE.out] at y0
 refine hK.out _ _ y0 (fun HS => ?_)
 clear hK K
 try simp only [Act.put, zA]
 refine qT 10 ?v10 ?y10 HS ?r10
 case y10 => refine qI fun wS hSw => ?_; go_simp; try with_reducible rfl
 try simp only [Act.put, zA]
 refine qR 11 fun K hK => ?_
 go_simp
 have B2 : Hid (Below w1.heap.size w1 (w1.alloc (.cells #[.slice (some ⟨wd.heap.size, 0, none⟩) n n, .int .i64 (s.r : Int)] 173))) := hid ((Below.refl _ _).alloc (nl _) _)
 have M2 : Hid (Mp (w1.alloc (.cells #[.slice (some ⟨wd.heap.size, 0, none⟩) n n, .int .i64 (s.r : Int)] 173)) g k s) := hid (M1.out.bel B2.out)
 have K2 : Hid (Blk (w1.alloc (.cells #[.slice (some ⟨wd.heap.size, 0, none⟩) n n, .int .i64 (s.r : Int)] 173)) wd.heap.size 4 (bls (tf n 0)).toArray) := hid (K1.out.keep (B2.out.block _ K1.out.lt))
 have G2 : Hid (Blk (w1.alloc (.cells #[.slice (some ⟨wd.heap.size, 0, none⟩) n n, .int .i64 (s.r : Int)] 173)) w1.heap.size 173 #[.slice (some ⟨wd.heap.size, 0, none⟩) n n, .int .i64 (s.r : Int)]) := hid (Blk.new _ _ _)
 generalize w1.alloc (.cells #[.slice (some ⟨wd.heap.size, 0, none⟩) n n, .int .i64 (s.r : Int)] 173) = w2 at *
 have y2 := M2.out.cells
 rw [HNE.out] at y2
 refine hK.out _ _ y2 (fun HS => ?_)
 clear hK K
 try simp only [Act.put, zA]
 refine qT 12 ?v12 ?y12 HS ?r12
 case y12 => refine qI fun wS hSw => ?_; go_simp; try with_reducible rfl
 try simp only [Act.put, zA]
 refine qD ?_
 clear HS HM
 have HB2 : Hid (Below w.heap.size w w2) := hid ((BD.out.trans (B1.out.mono (Nat.le_of_eq z0.out.symm))).trans (B2.out.mono (by have := z0.out; have := z1.out; omega)))
 generalize hk1 : wd.heap.size = k1 at *
 generalize hg1 : w1.heap.size = g1 at *
 have hgk : g1 ≠ k1 := by have := z1.out; omega
 have HKG : Hid (w.heap.size ≤ k1 ∧ w.heap.size ≤ g1 ∧ g1 ≠ k1) := hid ⟨by have := z0.out; omega, by have := z0.out; have := z1.out; omega, hgk⟩
 clear hgk z1 z0 BD B1 B2 M1 K1 HMd hk1 hg1 y0 h0 h1
 go_wp2_with fail
 have M3 : Hid (Mp w2.drew g k s) := hid (M2.out.bel ((Below.refl _ _).drew))
 have K3 : Hid (Blk w2.drew k1 4 (bls (tf n 0)).toArray) := hid K2.out
 have G3 : Hid (Blk w2.drew g1 173 #[.slice (some ⟨k1, 0, none⟩) n n, .int .i64 (s.r : Int)]) := hid G2.out
 have B3 : Hid (Below w.heap.size w w2.drew) := hid HB2.out.drew
 obtain ⟨x0, -⟩ := M3.out.cells
 rw [HNE.out] at x0
 have x1 : w2.drew.cell? ⟨g1, 0, none⟩ = some (.slice (some ⟨k1, 0, none⟩) n n) := by have := G3.out.cell 0; simpa using this
 refine wp_region_held_drew (S := fun wx => wx.cell? ⟨g1, 0, none⟩ = some (.slice (some ⟨k1, 0, none⟩) n n) ∧ wx.cell? ⟨g, 0, none⟩ = some (.slice (some ⟨k, 0, none⟩) n n)) (by kernel_rfl) ⟨x1, x0⟩ (fun HS => ?_)
 clear M2 K2 G2 HB2 y2
 generalize w2.drew = w3 at *
 refine qT 0 ?vb0 ?yb0 HS ?rb0
 case yb0 => refine qI fun wS hSw => ?_; go_simp; try with_reducible rfl
 try simp only [Act.put, zA]
 refine qT 1 ?vb1 ?yb1 HS ?rb1
 case yb1 => refine qI fun wS hSw => ?_; go_simp; try with_reducible rfl
 try simp only [Act.put, zA]
 refine qT 2 ?vb2 ?yb2 HS ?rb2
 case yb2 => refine qI fun wS hSw => ?_; go_simp; try with_reducible rfl
 try simp only [Act.put, zA]
 refine qT 3 ?vb3 ?yb3 HS ?rb3
 case yb3 =>
  refine qI fun wS hSw => ?_
  obtain ⟨z0, z1⟩ := hSw
  go_simp
  try with_reducible rfl
 try simp only [Act.put, zA]
 refine qT 4 ?vb4 ?yb4 HS ?rb4
 case yb4 => refine qI fun wS hSw => ?_; go_simp; try with_reducible rfl
 try simp only [Act.put, zA]
 refine qT 5 ?vb5 ?yb5 HS ?rb5
 case yb5 => refine qI fun wS hSw => ?_; go_simp; try with_reducible rfl
 try simp only [Act.put, zA]
 refine qT 6 ?vb6 ?yb6 HS ?rb6
 case yb6 => refine qI fun wS hSw => ?_; go_simp; try with_reducible rfl
 try simp only [Act.put, zA]
 refine qT 7 ?vb7 ?yb7 HS ?rb7
 case yb7 =>
  refine qI fun wS hSw => ?_
  obtain ⟨z0, z1⟩ := hSw
  go_simp
  try with_reducible rfl
 try simp only [Act.put, zA]
 have hcp := run_copyB w3 3 k1 k n s.T (tf n 0) HNE.out (tf_len n 0 (Nat.zero_le _)) M3.out.row K3.out
 have HF : Hid (Mp (w3.setCells k1 0 (bls s.T)) g1 k1 s ∧ Below w.heap.size w (w3.setCells k1 0 (bls s.T)) ∧ Mp (w3.setCells k1 0 (bls s.T)) g k s) := hid (by
  have hgr := grown_setCells k1 (bls s.T) 0 w3
  refine ⟨⟨?_, K3.out.setAll (bls s.T) (by rw [bls_len, HNE.out]; simp [bls_len, tf_len]), M3.out.ok⟩, B3.out.grown hgr B3.out.size (fun x hx => by injection hx with hx; have := HKG.out; omega), M3.out.kp (Kp.setCells (F := fun j => j = k1) w3 k1 0 _ rfl) (by have := HKG.out; have := HLT.out; omega) (by have := HKG.out; have := HLT.out; omega)⟩
  rw [HNE.out]
  exact G3.out.keep (hgr.block g1 G3.out.lt (fun e => by injection e with e; exact HKG.out.2.2 e)))
 clear M3 K3 G3 B3 x0 x1
 generalize w3.setCells k1 0 (bls s.T) = w4 at *
 have u0 := HF.out.1.cells
 have u1 := HF.out.2.2.cells
 rw [HNE.out] at u0 u1
 refine qR 8 fun K hK => ?_
 go_simp
 refine hK.out _ _ ⟨u0.1, u1.1⟩ (fun HS => ?_)
 clear hK K
 try simp only [Act.put, zA]
 refine qD ?_
 go_wp2
 go_ret
 exact ⟨g1, k1, rfl, HF.out.1, HF.out.2.1, HKG.out.2.1, HKG.out.1⟩
end Go.Proofs.YtolaojkcofbkhaaGreat
