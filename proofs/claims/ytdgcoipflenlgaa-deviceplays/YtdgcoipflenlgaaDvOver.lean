/- What Overwrite of a device does: the block is laid anew and kept, its writes that wait are gone. -/
import Derived.Test.YtdgcoipflenlgaaDvDel2
namespace Go.Proofs.Ytdgcoipflenlgaa
open Go.RowKit

theorem Gen.over {w0 w w7 : World} {F : Nat → Prop} {g : Nat} {s : St} {k q c : Nat} {A : Option Addr} {i : Nat} {l : List UInt8} (hl : l.length ≤ 16) (h : Gen w0 w F g s k q A c (upd s.K i (pad l)) (upd (app s.W s.K) i (pad l)))
    (ho : w7.ownsRow 0 65 17 (.slice A (fil s.W i).length c) (fil s.W i).length (wcs (fil s.W i))) (hg : w.grownBy w7 (A.map (·.block))) :
    Left w0 (w7.setCell ⟨g, 2, none⟩ (.slice A (fil s.W i).length c)) F g (s.over i l) := by
  have hg2 := grown_setCell w7 g 2 (.slice A (fil s.W i).length c)
  have lt := fun j hj => h.lt j hj
  have nA : ∀ j, F j → (∀ d, A.map (·.block) = some d → d ≠ j) → w7.heap[j]? = w.heap[j]? := fun j hj hd => hg.block j (lt j hj) (fun e => hd j e.symm rfl)
  have eg := nA g h.Fg fun d hd => (h.Ag d hd).1
  have ek := nA k h.Fk fun d hd => (h.Ag d hd).2.1
  have eq' := nA q h.Fq fun d hd => (h.Ag d hd).2.2.1
  have s7 := hg.size
  have lt7 : ∀ j, F j → j < w7.heap.size := fun j hj => Nat.lt_of_lt_of_le (lt j hj) s7
  refine ⟨F, ⟨k, q, A, c, ?_, ?_, ?_, ?_, h.gk, h.gq, h.kq, h.Ag, h.Fg, h.Fk, h.Fq, fun j hj => Nat.lt_of_lt_of_le (lt7 j hj) hg2.size, h.ok.over i hl⟩, ?_, fun j hj => .inl hj⟩
  · exact (h.blk.keep eg).store 2 (.slice A (fil s.W i).length c)
  · exact (h.kept.keep s7 ek).keep hg2.size (hg2.block k (lt7 k h.Fk) (by simpa using Ne.symm h.gk))
  · have := (h.seen.keep s7 eq').keep hg2.size (hg2.block q (lt7 q h.Fq) (by simpa using Ne.symm h.gq))
    exact this.same fun j _ => congrFun (app_filter _ _ _ _) j
  · exact own_keep ho fun b hb => hg2.block b (own_lt ho b hb) (by simpa using (h.Ag b hb).1)
  · exact (h.kp.trans (Kp.grown hg fun j hj => .inl (h.Ag j hj).2.2.2)).trans (Kp.setCell w7 g 2 _ h.Fg)

set_option maxRecDepth 20000 in
set_option maxHeartbeats 4000000 in
theorem over_c (w : World) (F : Nat → Prop) (g : Nat) (s1 : St) (h : Dev w F g s1) (i : Nat) (hi : i < s1.n) (BA : Option Addr) (n c : Nat) (l : List UInt8) (hr : Bts w 0 w.heap.size BA n l) (hn : n ≤ 16) (hW : s1.W.length ≤ 1000000) :
    Calls Try.prog 21 #[.pointer (some ⟨g, 0, none⟩), .int .i64 (i : Int), .slice BA n c] w fun e w' => e = .returned (.int .i64 0) ∧ Left w w' F g (s1.over i l) := by
  have hbel : Below w.heap.size w (w.alloc (.cells #[.int .i64 (i : Int)] 3)) := (Below.refl _ _).alloc (Nat.le_refl _) _
  have hvi : (w.alloc (.cells #[.int .i64 (i : Int)] 3)).cell? ⟨w.heap.size, 0, none⟩ = some (.int .i64 (i : Int)) := by
    rw [(Blk.new w 3 #[.int .i64 (i : Int)]).cell]
    rfl
  have hsz : (w.alloc (.cells #[.int .i64 (i : Int)] 3)).heap.size = w.heap.size + 1 := by simp
  have hw := wrong_ok _ F g s1 (h.bel hbel) i BA n c (by unfold bad; omega)
  have HI : Hid (i < s1.n) := hid hi
  have HBT : Hid (Bts (w.alloc (.cells #[.int .i64 (i : Int)] 3)) 0 (w.alloc (.cells #[.int .i64 (i : Int)] 3)).heap.size BA n l) := hid ((hr.below hbel (Nat.le_refl _)).wide (Nat.le_refl _) hbel.size)
  have HN := hid hn
  have HL := hid hr.len
  have HPL : Hid ((pad l).length = 16) := hid (pad_len l (by rw [hr.len]; exact hn))
  have HLL : Hid (l.length ≤ 16) := hid (by rw [hr.len]; exact hn)
  have HW := hid hW
  have HF := hid h.lt
  obtain ⟨k, q, A1, c1, hd⟩ := h.bel hbel
  have HG0 := hid (Gen.of hd)
  obtain ⟨x0, x1, x2, -⟩ := hd.cells
  have HK : Hid (Kp F w (w.alloc (.cells #[.int .i64 (i : Int)] 3))) := hid (Kp.ofBelow hbel)
  have HVN : Hid (¬ F w.heap.size) := hid (h.no (Nat.le_refl _))
  have HP : Hid ((bs (pad l)).length = 16) := hid (by rw [bs_len, HPL.out])
  have HIN : Hid ((Try.prog.info? 62).map (·.size) = some (bs (pad l)).length) := hid (by rw [HP.out]; exact Try.infoB)
  have i1 : (0 : Int) ≤ (i : Int) := by omega
  have i2 : (i : Int) < (s1.n : Int) := by omega
  clear hd h hr hn hW hi hbel
  go_enter Try.func21, Try.ntmps21
  go_wp2_with fail
  refine hw.mono ?_
  rintro e w' ⟨rfl, rfl⟩
  generalize w.alloc (.cells #[.int .i64 (i : Int)] 3) = w1 at *
  clear hw
  go_wp2_with fail
  refine wp_region_held_drew (S := fun wx => wx.cell? ⟨g, 0, none⟩ = some (.slice (some ⟨k, 0, none⟩) s1.n s1.n) ∧ wx.cell? ⟨w.heap.size, 0, none⟩ = some (.int .i64 (i : Int))) (by kernel_rfl) ⟨by simpa using x0, by simpa using hvi⟩ (fun HS => ?_)
  refine wpAnyH_take (i := 0) (oi := ?oi0) (v := ?v0) ?hi0 (by kernel_rfl) (by kernel_rfl) (by kernel_rfl) ?hQ0 ?hy0 HS ?rest0
  case hi0 => simp only [List.getElem?_toArray, List.getElem?_cons_zero]; exact rfl
  case hQ0 => exact fun _ _ _ h => h
  case hy0 =>
    refine Or.inl ⟨by rfl, ?_⟩
    intro wS hSw
    go_simp
    try with_reducible rfl
  try simp only [Act.put, List.setIfInBounds_toArray, List.set_cons_zero, List.set_cons_succ]
  refine wpAnyH_take (i := 1) (oi := ?oi1) (v := ?v1) ?hi1 (by kernel_rfl) (by kernel_rfl) (by kernel_rfl) ?hQ1 ?hy1 HS ?rest1
  case hi1 => simp only [List.getElem?_toArray, List.getElem?_cons_succ, List.getElem?_cons_zero]; exact rfl
  case hQ1 => exact fun _ _ _ h => h
  case hy1 =>
    refine Or.inl ⟨by rfl, ?_⟩
    intro wS hSw
    go_simp
    try with_reducible rfl
  try simp only [Act.put, List.setIfInBounds_toArray, List.set_cons_zero, List.set_cons_succ]
  refine wpAnyH_take (i := 2) (oi := ?oi2) (v := ?v2) ?hi2 (by kernel_rfl) (by kernel_rfl) (by kernel_rfl) ?hQ2 ?hy2 HS ?rest2
  case hi2 => simp only [List.getElem?_toArray, List.getElem?_cons_succ, List.getElem?_cons_zero]; exact rfl
  case hQ2 => exact fun _ _ _ h => h
  case hy2 =>
    refine Or.inl ⟨by rfl, ?_⟩
    intro wS hSw
    go_simp
    try with_reducible rfl
  try simp only [Act.put, List.setIfInBounds_toArray, List.set_cons_zero, List.set_cons_succ]
  refine wpAnyH_take (i := 3) (oi := ?oi3) (v := ?v3) ?hi3 (by kernel_rfl) (by kernel_rfl) (by kernel_rfl) ?hQ3 ?hy3 HS ?rest3
  case hi3 => simp only [List.getElem?_toArray, List.getElem?_cons_succ, List.getElem?_cons_zero]; exact rfl
  case hQ3 => exact fun _ _ _ h => h
  case hy3 =>
    refine Or.inl ⟨by rfl, ?_⟩
    intro wS hSw
    obtain ⟨z0, z1⟩ := hSw
    go_simp
    try with_reducible rfl
  try simp only [Act.put, List.setIfInBounds_toArray, List.set_cons_zero, List.set_cons_succ]
  refine wpAnyH_take (i := 4) (oi := ?oi4) (v := ?v4) ?hi4 (by kernel_rfl) (by kernel_rfl) (by kernel_rfl) ?hQ4 ?hy4 HS ?rest4
  case hi4 => simp only [List.getElem?_toArray, List.getElem?_cons_succ, List.getElem?_cons_zero]; exact rfl
  case hQ4 => exact fun _ _ _ h => h
  case hy4 =>
    refine Or.inl ⟨by rfl, ?_⟩
    intro wS hSw
    obtain ⟨z0, z1⟩ := hSw
    go_simp
    try with_reducible rfl
  try simp only [Act.put, List.setIfInBounds_toArray, List.set_cons_zero, List.set_cons_succ]
  refine wpAnyH_take (i := 5) (oi := ?oi5) (v := ?v5) ?hi5 (by kernel_rfl) (by kernel_rfl) (by kernel_rfl) ?hQ5 ?hy5 HS ?rest5
  case hi5 => simp only [List.getElem?_toArray, List.getElem?_cons_succ, List.getElem?_cons_zero]; exact rfl
  case hQ5 => exact fun _ _ _ h => h
  case hy5 =>
    refine Or.inl ⟨by rfl, ?_⟩
    intro wS hSw
    go_simp
    try with_reducible rfl
  try simp only [Act.put, List.setIfInBounds_toArray, List.set_cons_zero, List.set_cons_succ]
  refine wpAnyH_ready (rs := [6]) (by kernel_rfl) (by simp) ?_
  refine AllReadyH.cons (o := ?o6) ?ho6 (fun K hK => ?step6) AllReadyH.nil
  case ho6 => simp only [List.getElem?_toArray, List.getElem?_cons_succ, List.getElem?_cons_zero]; exact rfl
  go_simp
  refine (whole_c BA n c l w1.drew (HBT.out.kp (Kp.drew (fun _ => False) w1) (fun _ _ _ => id)) HN.out).mono ?_
  rintro e w2 ⟨rfl, hb2⟩
  have HB2 : Hid (Below w1.heap.size w1 w2) := hid (((Below.refl _ _).drew).trans (hb2.mono (by simp)))
  clear hb2
  refine hK.out _ _ ⟨by have := World.cell?_of_block (a := ⟨g, 0, none⟩) (HB2.out.block g HG0.out.blk.lt); rw [this]; exact x0, by have := World.cell?_of_block (a := ⟨w.heap.size, 0, none⟩) (HB2.out.block w.heap.size (by rw [hsz]; omega)); rw [this]; exact hvi⟩ (fun HS => ?_)
  clear hK K
  try simp only [Act.put, List.setIfInBounds_toArray, List.set_cons_zero, List.set_cons_succ]
  refine wpAnyH_take (i := 7) (oi := ?oi7) (v := ?v7) ?hi7 (by kernel_rfl) (by kernel_rfl) (by kernel_rfl) ?hQ7 ?hy7 HS ?rest7
  case hi7 => simp only [List.getElem?_toArray, List.getElem?_cons_succ, List.getElem?_cons_zero]; exact rfl
  case hQ7 => exact fun _ _ _ h => h
  case hy7 =>
    refine Or.inl ⟨by rfl, ?_⟩
    intro wS hSw
    go_simp
    try with_reducible rfl
  try simp only [Act.put, List.setIfInBounds_toArray, List.set_cons_zero, List.set_cons_succ]
  refine wpAnyH_ready (rs := [8]) (by kernel_rfl) (by simp) ?_
  refine AllReadyH.cons (o := ?o8) ?ho8 (fun K hK => ?step8) AllReadyH.nil
  case ho8 => simp only [List.getElem?_toArray, List.getElem?_cons_succ, List.getElem?_cons_zero]; exact rfl
  rw [if_pos (by rfl)]
  refine wp_store_mid 62 _ _ rfl k (i * 16) (bs (pad l)).toArray rfl rfl (by show World.there _ _ _ (bs (pad l)).length; rw [HP.out]; exact there_part (HG0.out.bel HB2.out).kept.there HI.out) HIN.out (all_oneCell_toArray (bs_one _)) ?_
  refine hK.out _ _ ⟨by have h0 := ((HG0.out.bel HB2.out).setK HG0.out.ok.K HI.out HPL.out).blk.cell 0; simpa using h0, (World.cell?_of_block ((grown_setCells k (bs (pad l)) (i * 16) w2).block w.heap.size (Nat.lt_of_lt_of_le (by rw [hsz]; omega) HB2.out.size) (fun e => HVN.out (by injection e with e; rw [e]; exact HG0.out.Fk)))).trans HS.2⟩ (fun HS => ?_)
  clear hK K
  try simp only [Act.put]
  refine wpAnyH_done (by kernel_rfl) ?_ _
  have HG2 : Hid (Gen w1 (w2.setCells k (i * 16) (bs (pad l))) F g s1 k q A1 c1 (upd s1.K i (pad l)) (app s1.W s1.K)) := hid ((HG0.out.bel HB2.out).setK HG0.out.ok.K HI.out HPL.out)
  have HVC : Hid ((w2.setCells k (i * 16) (bs (pad l))).cell? ⟨w.heap.size, 0, none⟩ = some (.int .i64 (i : Int))) := hid HS.2
  clear HS x0 x1 x2 HBT hvi
  generalize w2.setCells k (i * 16) (bs (pad l)) = w3 at *
  have y0 := HG2.out.blk.cell 0
  have y1 := HG2.out.blk.cell 1
  simp at y0 y1
  have y2 := HVC.out
  have y3 : w3.rangeAt k (i * 16) (bs (pad l)) := by have := HG2.out.kept.row i HI.out; rwa [upd_same] at this
  clear HVC
  go_wp2_with fail
  refine wp_region_held_drew (S := fun wx => wx.cell? ⟨g, 0, none⟩ = some (.slice (some ⟨k, 0, none⟩) s1.n s1.n) ∧ wx.cell? ⟨g, 1, none⟩ = some (.slice (some ⟨q, 0, none⟩) s1.n s1.n) ∧ wx.cell? ⟨w.heap.size, 0, none⟩ = some (.int .i64 (i : Int)) ∧ wx.rangeAt k (i * 16) (bs (pad l))) (by kernel_rfl) ⟨by simpa using y0, by simpa using y1, by simpa using y2, by simpa using y3⟩ (fun HS => ?_)
  have B4 : Hid (Below w3.heap.size w3 w3.drew) := hid ((Below.refl _ _).drew)
  generalize w3.drew = w4 at *
  refine wpAnyH_take (i := 0) (oi := ?ois0) (v := ?vs0) ?his0 (by kernel_rfl) (by kernel_rfl) (by kernel_rfl) ?hQs0 ?hys0 HS ?rests0
  case his0 => simp only [List.getElem?_toArray, List.getElem?_cons_zero]; exact rfl
  case hQs0 => exact fun _ _ _ h => h
  case hys0 =>
    refine Or.inl ⟨by rfl, ?_⟩
    intro wS hSw
    go_simp
    try with_reducible rfl
  try simp only [Act.put, List.setIfInBounds_toArray, List.set_cons_zero, List.set_cons_succ]
  refine wpAnyH_take (i := 1) (oi := ?ois1) (v := ?vs1) ?his1 (by kernel_rfl) (by kernel_rfl) (by kernel_rfl) ?hQs1 ?hys1 HS ?rests1
  case his1 => simp only [List.getElem?_toArray, List.getElem?_cons_succ, List.getElem?_cons_zero]; exact rfl
  case hQs1 => exact fun _ _ _ h => h
  case hys1 =>
    refine Or.inl ⟨by rfl, ?_⟩
    intro wS hSw
    go_simp
    try with_reducible rfl
  try simp only [Act.put, List.setIfInBounds_toArray, List.set_cons_zero, List.set_cons_succ]
  refine wpAnyH_take (i := 2) (oi := ?ois2) (v := ?vs2) ?his2 (by kernel_rfl) (by kernel_rfl) (by kernel_rfl) ?hQs2 ?hys2 HS ?rests2
  case his2 => simp only [List.getElem?_toArray, List.getElem?_cons_succ, List.getElem?_cons_zero]; exact rfl
  case hQs2 => exact fun _ _ _ h => h
  case hys2 =>
    refine Or.inl ⟨by rfl, ?_⟩
    intro wS hSw
    go_simp
    try with_reducible rfl
  try simp only [Act.put, List.setIfInBounds_toArray, List.set_cons_zero, List.set_cons_succ]
  refine wpAnyH_take (i := 3) (oi := ?ois3) (v := ?vs3) ?his3 (by kernel_rfl) (by kernel_rfl) (by kernel_rfl) ?hQs3 ?hys3 HS ?rests3
  case his3 => simp only [List.getElem?_toArray, List.getElem?_cons_succ, List.getElem?_cons_zero]; exact rfl
  case hQs3 => exact fun _ _ _ h => h
  case hys3 =>
    refine Or.inl ⟨by rfl, ?_⟩
    intro wS hSw
    obtain ⟨z0, z1, z2, z3⟩ := hSw
    go_simp
    try with_reducible rfl
  try simp only [Act.put, List.setIfInBounds_toArray, List.set_cons_zero, List.set_cons_succ]
  refine wpAnyH_take (i := 4) (oi := ?ois4) (v := ?vs4) ?his4 (by kernel_rfl) (by kernel_rfl) (by kernel_rfl) ?hQs4 ?hys4 HS ?rests4
  case his4 => simp only [List.getElem?_toArray, List.getElem?_cons_succ, List.getElem?_cons_zero]; exact rfl
  case hQs4 => exact fun _ _ _ h => h
  case hys4 =>
    refine Or.inl ⟨by rfl, ?_⟩
    intro wS hSw
    obtain ⟨z0, z1, z2, z3⟩ := hSw
    go_simp
    try with_reducible rfl
  try simp only [Act.put, List.setIfInBounds_toArray, List.set_cons_zero, List.set_cons_succ]
  refine wpAnyH_take (i := 5) (oi := ?ois5) (v := ?vs5) ?his5 (by kernel_rfl) (by kernel_rfl) (by kernel_rfl) ?hQs5 ?hys5 HS ?rests5
  case his5 => simp only [List.getElem?_toArray, List.getElem?_cons_succ, List.getElem?_cons_zero]; exact rfl
  case hQs5 => exact fun _ _ _ h => h
  case hys5 =>
    refine Or.inl ⟨by rfl, ?_⟩
    intro wS hSw
    go_simp
    try with_reducible rfl
  try simp only [Act.put, List.setIfInBounds_toArray, List.set_cons_zero, List.set_cons_succ]
  refine wpAnyH_take (i := 6) (oi := ?ois6) (v := ?vs6) ?his6 (by kernel_rfl) (by kernel_rfl) (by kernel_rfl) ?hQs6 ?hys6 HS ?rests6
  case his6 => simp only [List.getElem?_toArray, List.getElem?_cons_succ, List.getElem?_cons_zero]; exact rfl
  case hQs6 => exact fun _ _ _ h => h
  case hys6 =>
    refine Or.inl ⟨by rfl, ?_⟩
    intro wS hSw
    go_simp
    try with_reducible rfl
  try simp only [Act.put, List.setIfInBounds_toArray, List.set_cons_zero, List.set_cons_succ]
  refine wpAnyH_take (i := 7) (oi := ?ois7) (v := ?vs7) ?his7 (by kernel_rfl) (by kernel_rfl) (by kernel_rfl) ?hQs7 ?hys7 HS ?rests7
  case his7 => simp only [List.getElem?_toArray, List.getElem?_cons_succ, List.getElem?_cons_zero]; exact rfl
  case hQs7 => exact fun _ _ _ h => h
  case hys7 =>
    refine Or.inl ⟨by rfl, ?_⟩
    intro wS hSw
    go_simp
    try with_reducible rfl
  try simp only [Act.put, List.setIfInBounds_toArray, List.set_cons_zero, List.set_cons_succ]
  refine wpAnyH_take (i := 8) (oi := ?ois8) (v := ?vs8) ?his8 (by kernel_rfl) (by kernel_rfl) (by kernel_rfl) ?hQs8 ?hys8 HS ?rests8
  case his8 => simp only [List.getElem?_toArray, List.getElem?_cons_succ, List.getElem?_cons_zero]; exact rfl
  case hQs8 => exact fun _ _ _ h => h
  case hys8 =>
    refine Or.inl ⟨by rfl, ?_⟩
    intro wS hSw
    obtain ⟨z0, z1, z2, z3⟩ := hSw
    go_simp
    try with_reducible rfl
  try simp only [Act.put, List.setIfInBounds_toArray, List.set_cons_zero, List.set_cons_succ]
  refine wpAnyH_take (i := 9) (oi := ?ois9) (v := ?vs9) ?his9 (by kernel_rfl) (by kernel_rfl) (by kernel_rfl) ?hQs9 ?hys9 HS ?rests9
  case his9 => simp only [List.getElem?_toArray, List.getElem?_cons_succ, List.getElem?_cons_zero]; exact rfl
  case hQs9 => exact fun _ _ _ h => h
  case hys9 =>
    refine Or.inl ⟨by rfl, ?_⟩
    intro wS hSw
    obtain ⟨z0, z1, z2, z3⟩ := hSw
    go_simp
    try with_reducible rfl
  try simp only [Act.put, List.setIfInBounds_toArray, List.set_cons_zero, List.set_cons_succ]
  refine wpAnyH_take (i := 10) (oi := ?ois10) (v := ?vs10) ?his10 (by kernel_rfl) (by kernel_rfl) (by kernel_rfl) ?hQs10 ?hys10 HS ?rests10
  case his10 => simp only [List.getElem?_toArray, List.getElem?_cons_succ, List.getElem?_cons_zero]; exact rfl
  case hQs10 => exact fun _ _ _ h => h
  case hys10 =>
    refine Or.inl ⟨by rfl, ?_⟩
    intro wS hSw
    go_simp
    try with_reducible rfl
  try simp only [Act.put, List.setIfInBounds_toArray, List.set_cons_zero, List.set_cons_succ]
  refine wpAnyH_take (i := 11) (oi := ?ois11) (v := ?vs11) ?his11 (by kernel_rfl) (by kernel_rfl) (by kernel_rfl) ?hQs11 ?hys11 HS ?rests11
  case his11 => simp only [List.getElem?_toArray, List.getElem?_cons_succ, List.getElem?_cons_zero]; exact rfl
  case hQs11 => exact fun _ _ _ h => h
  case hys11 =>
    refine Or.inl ⟨by rfl, ?_⟩
    intro wS hSw
    refine Eq.trans (exec_load_mid 62 (.tmp 33) ?_ k (i * 16) ?_ (bs (pad l)) _ hSw.2.2.2 Try.undB rfl HIN.out) ?_
    · rfl
    · rfl
    · with_reducible rfl
  try simp only [Act.put, List.setIfInBounds_toArray, List.set_cons_zero, List.set_cons_succ]
  refine wpAnyH_take (i := 12) (oi := ?ois12) (v := ?vs12) ?his12 (by kernel_rfl) (by kernel_rfl) (by kernel_rfl) ?hQs12 ?hys12 HS ?rests12
  case his12 => simp only [List.getElem?_toArray, List.getElem?_cons_succ, List.getElem?_cons_zero]; exact rfl
  case hQs12 => exact fun _ _ _ h => h
  case hys12 =>
    refine Or.inl ⟨by rfl, ?_⟩
    intro wS hSw
    go_simp
    try with_reducible rfl
  try simp only [Act.put, List.setIfInBounds_toArray, List.set_cons_zero, List.set_cons_succ]
  refine wpAnyH_ready (rs := [13]) (by kernel_rfl) (by simp) ?_
  refine AllReadyH.cons (o := ?os13) ?hos13 (fun K hK => ?steps13) AllReadyH.nil
  case hos13 => simp only [List.getElem?_toArray, List.getElem?_cons_succ, List.getElem?_cons_zero]; exact rfl
  rw [if_pos (by rfl)]
  refine wp_store_mid 62 _ _ rfl q (i * 16) (bs (pad l)).toArray rfl rfl (by show World.there _ _ _ (bs (pad l)).length; rw [HP.out]; exact there_part (HG2.out.bel B4.out).seen.there HI.out) HIN.out (all_oneCell_toArray (bs_one _)) ?_
  refine hK.out _ _ ⟨by have h0 := ((HG2.out.bel B4.out).setS HG2.out.ok.S HI.out HPL.out).blk.cell 0; simpa using h0, by have h0 := ((HG2.out.bel B4.out).setS HG2.out.ok.S HI.out HPL.out).blk.cell 1; simpa using h0, (World.cell?_of_block ((grown_setCells q (bs (pad l)) (i * 16) w4).block w.heap.size (block_lt0 HS.2.2.1) (fun e => HVN.out (by injection e with e; rw [e]; exact HG2.out.Fq)))).trans HS.2.2.1, World.rangeAt_setCells_apart HS.2.2.2 _ _ _ (.inl HG2.out.kq)⟩ (fun HS => ?_)
  clear hK K
  try simp only [Act.put]
  refine wpAnyH_done (by kernel_rfl) ?_ _
  have HG4 : Hid (Gen w1 (w4.setCells q (i * 16) (bs (pad l))) F g s1 k q A1 c1 (upd s1.K i (pad l)) (upd (app s1.W s1.K) i (pad l))) := hid ((HG2.out.bel B4.out).setS HG2.out.ok.S HI.out HPL.out)
  have z2 := HS.2.2.1
  clear HS y0 y1 y2 y3
  generalize w4.setCells q (i * 16) (bs (pad l)) = w5 at *
  have x2 := HG4.out.blk.cell 2
  simp at x2
  have HZ := hid z2
  clear z2
  go_wp2_with fail
  refine (delete_c w5 A1 c1 s1.W HG4.out.wait (fun x hx => (HG4.out.ok.W x hx).2) HW.out i w.heap.size HZ.out (fun b hb e => HVN.out (by rw [← e]; exact (HG4.out.Ag b hb).2.2.2))).mono ?_
  rintro e w7 ⟨rfl, ho7, hg7⟩
  have HE7 := hid (Gen.over HLL.out HG4.out ho7 hg7)
  have eg7 : w7.heap[g]? = w5.heap[g]? := hg7.block g HG4.out.blk.lt (fun e => (HG4.out.Ag g e.symm).1 rfl)
  have f7 := (HG4.out.blk.keep eg7).frozen 2
  have u2 := (HG4.out.blk.keep eg7).cell 2
  simp at u2
  clear ho7 hg7 eg7 HG4 HG2 HG0 HZ x2
  go_wp2
  go_ret
  exact ⟨rfl, Left.after HK.out (fun j hj => .inl hj) HE7.out⟩
end Go.Proofs.Ytdgcoipflenlgaa
