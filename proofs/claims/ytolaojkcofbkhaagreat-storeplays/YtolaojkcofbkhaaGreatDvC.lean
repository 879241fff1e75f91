import Derived.Test.YtolaojkcofbkhaaGreatDvW
namespace Go.Proofs.YtolaojkcofbkhaaGreat
set_option maxRecDepth 100000
set_option maxHeartbeats 8000000
open Go.RowKit
structure Gen (w0 w : World) (F : Nat → Prop) (g : Nat) (s : St) (k q : Nat) (A : Option Addr) (c : Nat) (K S : Bl) : Prop where
 blk : Blk w g 108 #[.slice (some ⟨k, 0, none⟩) s.n s.n, .slice (some ⟨q, 0, none⟩) s.n s.n, .slice A s.W.length c, .bool s.lim.isSome, .int .i64 ((s.lim.getD 0 : Nat) : Int)]
 kept : Rows w k s.n K
 seen : Rows w q s.n S
 wait : w.ownsRow 0 143 17 (.slice A s.W.length c) s.W.length (wcs s.W)
 kp : Kp F w0 w
 gk : g ≠ k
 gq : g ≠ q
 kq : k ≠ q
 Ag : ∀ b, A.map (·.block) = some b → b ≠ g ∧ b ≠ k ∧ b ≠ q ∧ F b
 Fg : F g
 Fk : F k
 Fq : F q
 F : ∀ j, F j → j < w0.heap.size
 ok : s.ok
section
variable {w0 w : World} {F : Nat → Prop} {g : Nat} {s : St} {k q c : Nat} {A : Option Addr} {K S : Bl}
theorem Gen.of (h : DevAt w F g s k q A c) : Gen w w F g s k q A c s.K (app s.W s.K) :=
 ⟨h.blk, h.kept, h.seen, h.wait, Kp.refl _ _, h.gk, h.gq, h.kq, h.Ag, h.Fg, h.Fk, h.Fq, h.F, h.ok⟩
theorem Gen.lt (h : Gen w0 w F g s k q A c K S) (j : Nat) (hj : F j) : j < w.heap.size := Nat.lt_of_lt_of_le (h.F j hj) h.kp.size
theorem Gen.bel (h : Gen w0 w F g s k q A c K S) {w' : World} (hb : Below w.heap.size w w') : Gen w0 w' F g s k q A c K S :=
 ⟨h.blk.keep (hb.block g h.blk.lt), h.kept.keep hb.size (hb.block k h.kept.lt), h.seen.keep hb.size (hb.block q h.seen.lt), own_keep h.wait fun b hA => hb.block b (own_lt h.wait b hA), h.kp.trans (Kp.ofBelow hb), h.gk, h.gq, h.kq, h.Ag, h.Fg, h.Fk, h.Fq, h.F, h.ok⟩
theorem Gen.setK (h : Gen w0 w F g s k q A c K S) (hK : ∀ i, (K i).length = 16) {i : Nat} (hi : i < s.n) {b : List UInt8} (hb : b.length = 16) : Gen w0 (w.setCells k (i * 16) (bs b)) F g s k q A c (upd K i b) S := by
 have hg := grown_setCells k (bs b) (i * 16) w
 exact ⟨h.blk.keep (hg.block g (h.lt g h.Fg) (by simpa using h.gk)), h.kept.put hK hi hb, h.seen.other (Ne.symm h.kq) _ _, own_keep h.wait (fun b hb => hg.block b (own_lt h.wait b hb) (by simpa using (h.Ag b hb).2.1)), h.kp.trans (Kp.setCells w k _ _ h.Fk), h.gk, h.gq, h.kq, h.Ag, h.Fg, h.Fk, h.Fq, h.F, h.ok⟩
theorem Gen.setS (h : Gen w0 w F g s k q A c K S) (hS : ∀ i, (S i).length = 16) {i : Nat} (hi : i < s.n) {b : List UInt8} (hb : b.length = 16) : Gen w0 (w.setCells q (i * 16) (bs b)) F g s k q A c K (upd S i b) := by
 have hg := grown_setCells q (bs b) (i * 16) w
 exact ⟨h.blk.keep (hg.block g (h.lt g h.Fg) (by simpa using h.gq)), h.kept.other h.kq _ _, h.seen.put hS hi hb, own_keep h.wait (fun b hb => hg.block b (own_lt h.wait b hb) (by simpa using (h.Ag b hb).2.2.1)), h.kp.trans (Kp.setCells w q _ _ h.Fq), h.gk, h.gq, h.kq, h.Ag, h.Fg, h.Fk, h.Fq, h.F, h.ok⟩
theorem Gen.close (h : Gen w0 w F g s k q A c K S) (hS : ∀ i, i < s.n → K i = S i) (hK : ∀ i, (K i).length = 16) (l : Option Nat) (hl : ∀ d, l = some d → d ≤ 9223372036854775807) {w' : World} (hw : w.grownBy w' (some g))
 (hb : Blk w' g 108 #[.slice (some ⟨k, 0, none⟩) s.n s.n, .slice (some ⟨q, 0, none⟩) s.n s.n, .slice none 0 0, .bool l.isSome, .int .i64 ((l.getD 0 : Nat) : Int)]) : Left w0 w' F g { n := s.n, K := K, W := [], lim := l } :=
 ⟨F, ⟨k, q, none, 0, hb, h.kept.keep hw.size (hw.block k h.kept.lt (by simpa using Ne.symm h.gk)), (h.seen.keep hw.size (hw.block q h.seen.lt (by simpa using Ne.symm h.gq))).same fun i hi => hS i hi,
  ⟨rfl, .inl ⟨rfl, rfl⟩⟩, h.gk, h.gq, h.kq, fun b hb => (by cases hb), h.Fg, h.Fk, h.Fq, fun j hj => Nat.lt_of_lt_of_le (h.lt j hj) hw.size, ⟨h.ok.n1, h.ok.n2, hK, fun x hx => (by cases hx), hl⟩⟩,
  h.kp.trans (Kp.grown hw fun j hj => by injection hj with hj; subst hj; exact .inl h.Fg), fun j hj => .inl hj⟩
theorem Gen.elem (h : Gen w0 w F g s k q A c K S) {j : Nat} (hj : j < s.W.length) : ∃ b, A = some ⟨b, 0, none⟩ ∧ b < w.heap.size ∧ w.rangeAt b (j * 17) (.int .i64 (s.W[j].1 : Int) :: bs s.W[j].2) := by
 obtain ⟨b, hA, hb, hr⟩ := own_range h.wait (by omega)
 refine ⟨b, hA, hb, fun t u hu => ?_⟩
 have := hr (j * 17 + t) u (wcs_at s.W (fun x hx => (h.ok.W x hx).2) hj t u hu)
 rwa [Nat.zero_add] at this
end
theorem z17 (w : World) : (w.alloc (.cells #[.int .i64 0, .int .u8 0, .int .u8 0, .int .u8 0, .int .u8 0, .int .u8 0, .int .u8 0, .int .u8 0, .int .u8 0, .int .u8 0, .int .u8 0, .int .u8 0, .int .u8 0, .int .u8 0, .int .u8 0, .int .u8 0, .int .u8 0] 143)).there w.heap.size 0 17 := by
 have hB := Blk.new w 143 #[.int .i64 0, .int .u8 0, .int .u8 0, .int .u8 0, .int .u8 0, .int .u8 0, .int .u8 0, .int .u8 0, .int .u8 0, .int .u8 0, .int .u8 0, .int .u8 0, .int .u8 0, .int .u8 0, .int .u8 0, .int .u8 0, .int .u8 0]
 refine fun j hj => ⟨?_, hB.frozen _⟩
 rw [hB.cell, Nat.zero_add, Array.getElem?_eq_getElem (by simpa using hj)]
 rfl
theorem Tryz.undW2 : ∃ d, Tryz.prog.underlying 143 = some d ∧ d.isRow = true := by
 have := Tryz.undW
 cases h : Tryz.prog.underlying 143 with
 | none => rw [h] at this; cases this
 | some d => rw [h] at this; exact ⟨d, rfl, by simpa using this⟩
structure Var (w w1 : World) (i : Nat) (b : List UInt8) : Prop where
 bel : Below w.heap.size w w1
 at_ : w1.cell? ⟨w.heap.size, 0, none⟩ = some (.int .i64 (i : Int))
 with_ : w1.rangeAt w.heap.size 1 (bs b)
 lt : w.heap.size < w1.heap.size
theorem Var.of (w : World) (i : Nat) (b : List UInt8) (hb : b.length = 16) : Var w ((w.alloc (.cells #[.int .i64 0, .int .u8 0, .int .u8 0, .int .u8 0, .int .u8 0, .int .u8 0, .int .u8 0, .int .u8 0, .int .u8 0, .int .u8 0, .int .u8 0, .int .u8 0, .int .u8 0, .int .u8 0, .int .u8 0, .int .u8 0, .int .u8 0] 143)).setCells w.heap.size 0 (.int .i64 (i : Int) :: bs b)) i b := by
 have hr : ((w.alloc (.cells #[.int .i64 0, .int .u8 0, .int .u8 0, .int .u8 0, .int .u8 0, .int .u8 0, .int .u8 0, .int .u8 0, .int .u8 0, .int .u8 0, .int .u8 0, .int .u8 0, .int .u8 0, .int .u8 0, .int .u8 0, .int .u8 0, .int .u8 0] 143)).setCells w.heap.size 0 (.int .i64 (i : Int) :: bs b)).rangeAt w.heap.size 0 (.int .i64 (i : Int) :: bs b) := World.rangeAt_setCells_same _ _ _ _ (by simp only [List.length_cons, bs_len, hb]; exact z17 w)
 have hg := grown_setCells w.heap.size (.int .i64 (i : Int) :: bs b) 0 (w.alloc (.cells #[.int .i64 0, .int .u8 0, .int .u8 0, .int .u8 0, .int .u8 0, .int .u8 0, .int .u8 0, .int .u8 0, .int .u8 0, .int .u8 0, .int .u8 0, .int .u8 0, .int .u8 0, .int .u8 0, .int .u8 0, .int .u8 0, .int .u8 0] 143))
 refine ⟨((Below.refl _ _).alloc (nl _) _).grown hg (by simp) (fun k hk => by injection hk with hk; omega), hr 0 _ rfl, fun j v hv => ?_, Nat.lt_of_lt_of_le (by simp) hg.size⟩
 have := hr (j + 1) v (by simpa using hv)
 rwa [Nat.zero_add, Nat.add_comm j 1] at this
theorem sync_off (w : World) (F : Nat → Prop) (g : Nat) (s : St) (h : Dev w F g s) (ho : s.lim = some 0) :
 Calls Tryz.prog 129 #[.pointer (some ⟨g, 0, none⟩)] w fun e w' => e = .returned (.int .i64 40) ∧ w = w' := by
 have hc := count_off w F g s h ho
 clear h
 go_enter Tryz.func129, Tryz.ntmps129
 go_wp2_with fail
 refine hc.mono ?_
 rintro e w' ⟨rfl, rfl⟩
 go_wp2
 go_ret
 exact ⟨rfl, rfl⟩
theorem sync_c (w : World) (F : Nat → Prop) (g : Nat) (s : St) (h : Dev w F g s) (ho : s.lim ≠ some 0) (hW : s.W.length ≤ 1000000) :
 Calls Tryz.prog 129 #[.pointer (some ⟨g, 0, none⟩)] w fun e w' => e = .returned (.int .i64 0) ∧ Left w w' F g s.sync.dec := by
 have hc := count_on w F g s h ho
 have HWl : Hid (s.dec.W.length ≤ 1000000) := hid hW
 have HE : Hid (s.sync.dec = s.dec.sync) := hid rfl
 rw [HE.out]
 generalize s.dec = s1 at *
 clear h ho hW HE
 go_enter Tryz.func129, Tryz.ntmps129
 go_wp2_with fail
 refine hc.mono ?_
 rintro e w1 ⟨rfl, F1, hd1, hk1, hF1⟩
 have HK1 := hid hk1
 have HF1 := hid hF1
 clear hc hk1 hF1
 obtain ⟨k, q, A1, c1, hd⟩ := hd1
 obtain ⟨-, -, x2, -⟩ := hd.cells
 have HG := hid (Gen.of hd)
 clear hd
 go_wp2_with fail
 go_loopw [16] (fun iv wr => ∃ j : Nat, iv = .int .i64 (j : Int) ∧ Hid (j ≤ s1.W.length) ∧ Hid (Gen w1 wr F1 g s1 k q A1 c1 (app (s1.W.take j) s1.K) (app s1.W s1.K))) (fun iv _ => s1.W.length - (intOf iv).toNat)
 case atStart => exact ⟨0, rfl, hid (Nat.zero_le _), HG⟩
 case round =>
  obtain ⟨j, rfl, hj, hG⟩ := hrel
  clear HG x2
  rcases Nat.lt_or_ge j s1.W.length with hlt | hge
  · have HLT := hid hlt
    obtain ⟨b, rfl, hb, hR⟩ := hG.out.elem hlt
    have hx := hG.out.ok.W s1.W[j] (List.getElem_mem hlt)
    have htk : s1.W.take (j + 1) = s1.W.take j ++ [(s1.W[j].1, s1.W[j].2)] := List.take_succ_eq_append_getElem hlt
    have HKL : Hid (∀ i, (app (s1.W.take j) s1.K i).length = 16) := hid (app_len _ _ hG.out.ok.K fun x hx => (hG.out.ok.W x (List.mem_of_mem_take hx)).2)
    generalize s1.W[j].1 = i at *
    generalize s1.W[j].2 = l at *
    have HX := hid hx
    have HTK := hid htk
    have HR := hid hR
    obtain ⟨d, hd1, hd2⟩ := Tryz.undW2
    have HD := hid (And.intro hd1 hd2)
    have hel : (Value.int .i64 (i : Int) :: bs l).length = 17 := by rw [List.length_cons, bs_len, hx.2]
    have HIN : Hid ((Tryz.prog.info? 143).map (·.size) = some (Value.int .i64 (i : Int) :: bs l).length) := hid (by rw [hel]; exact Tryz.infoW1)
    have HT : Hid ((wr.alloc (.cells #[.int .i64 0, .int .u8 0, .int .u8 0, .int .u8 0, .int .u8 0, .int .u8 0, .int .u8 0, .int .u8 0, .int .u8 0, .int .u8 0, .int .u8 0, .int .u8 0, .int .u8 0, .int .u8 0, .int .u8 0, .int .u8 0, .int .u8 0] 143)).there wr.heap.size 0 (Value.int .i64 (i : Int) :: bs l).toArray.size) := hid (by show World.there _ _ 0 (Value.int .i64 (i : Int) :: bs l).length; rw [hel]; exact z17 wr)
    have HC : Hid ((Value.int .i64 (i : Int) :: bs l).toArray.all (·.oneCell') = true) := hid (all_oneCell_toArray (fun u hu => by rcases List.mem_cons.1 hu with rfl | hu; rfl; exact bs_one _ u hu))
    have j1 : (0 : Int) ≤ (j : Int) := by omega
    have j2 : (j : Int) < (s1.W.length : Int) := by omega
    have j3 : decide ((j : Int) < (s1.W.length : Int)) = true := by simpa using hlt
    have j4 : decide (j < s1.W.length) = true := by simpa using hlt
    have i1 : (0 : Int) ≤ (i : Int) := by omega
    have i2 : (i : Int) < (s1.n : Int) := by have := hx.1; omega
    have wj : wrap64 ((j : Int) + 1) = ((j + 1 : Nat) : Int) := by have := HWl.out; unfold wrap64; omega
    clear hx htk hR hd1 hd2 hel
    generalize hE : Value.int .i64 (i : Int) :: bs l = E at *
    as_aux_lemma =>
    go_wp2_with (first | (refine wpList_load_mid rfl 143 _ rfl b (j * 17) rfl E d HR.out HD.out.1 HD.out.2 HIN.out ?_) | (refine wpList_store_mid rfl 143 _ _ rfl _ _ E.toArray rfl rfl HT.out HIN.out HC.out ?_))
    have hV : Var wr ((wr.alloc (.cells #[.int .i64 0, .int .u8 0, .int .u8 0, .int .u8 0, .int .u8 0, .int .u8 0, .int .u8 0, .int .u8 0, .int .u8 0, .int .u8 0, .int .u8 0, .int .u8 0, .int .u8 0, .int .u8 0, .int .u8 0, .int .u8 0, .int .u8 0] 143)).setCells wr.heap.size 0 E) i l := by rw [← hE]; exact Var.of wr i l HX.out.2
    simp only [Act.put]
    generalize (wr.alloc (.cells #[.int .i64 0, .int .u8 0, .int .u8 0, .int .u8 0, .int .u8 0, .int .u8 0, .int .u8 0, .int .u8 0, .int .u8 0, .int .u8 0, .int .u8 0, .int .u8 0, .int .u8 0, .int .u8 0, .int .u8 0, .int .u8 0, .int .u8 0] 143)).setCells wr.heap.size 0 E = w2 at *
    have HG2 := hid (hG.out.bel hV.bel)
    have y0 := HG2.out.blk.cell 0
    simp at y0
    have y1 := hV.at_
    have y2 := hV.with_
    have HB : Hid ((Tryz.prog.info? 139).map (·.size) = some (bs l).length) := hid (by rw [bs_len, HX.out.2]; exact Tryz.infoB)
    have hv1 : wr.heap.size ≠ k := by have := hG.out.kept.lt; omega
    clear hG HR HT HC HIN hE hb HLT
    refine wp_region_held_drew (S := fun wx => wx.cell? ⟨g, 0, none⟩ = some (.slice (some ⟨k, 0, none⟩) s1.n s1.n) ∧ wx.cell? ⟨wr.heap.size, 0, none⟩ = some (.int .i64 (i : Int)) ∧ wx.rangeAt wr.heap.size 1 (bs l)) (by kernel_rfl) ⟨by simpa using y0, by simpa using y1, by simpa using y2⟩ (fun HS => ?_)
    have B3 : Hid (Below w2.heap.size w2 w2.drew) := hid ((Below.refl _ _).drew)
    generalize w2.drew = w3 at *
    refine qT 0 ?v0 ?y0 HS ?r0
    case y0 => refine qI fun wS hSw => ?_; go_simp; try with_reducible rfl
    try simp only [Act.put, zA]
    refine qT 1 ?v1 ?y1 HS ?r1
    case y1 => refine qI fun wS hSw => ?_; go_simp; try with_reducible rfl
    try simp only [Act.put, zA]
    refine qT 2 ?v2 ?y2 HS ?r2
    case y2 => refine qI fun wS hSw => ?_; go_simp; try with_reducible rfl
    try simp only [Act.put, zA]
    refine qT 3 ?v3 ?y3 HS ?r3
    case y3 =>
     refine qI fun wS hSw => ?_
     obtain ⟨z0, z1, z2⟩ := hSw
     go_simp
     try with_reducible rfl
    try simp only [Act.put, zA]
    refine qT 4 ?v4 ?y4 HS ?r4
    case y4 => refine qI fun wS hSw => ?_; go_simp; try with_reducible rfl
    try simp only [Act.put, zA]
    refine qT 5 ?v5 ?y5 HS ?r5
    case y5 =>
     refine qI fun wS hSw => ?_
     obtain ⟨z0, z1, z2⟩ := hSw
     go_simp
     try with_reducible rfl
    try simp only [Act.put, zA]
    refine qT 6 ?v6 ?y6 HS ?r6
    case y6 => refine qI fun wS hSw => ?_; go_simp; try with_reducible rfl
    try simp only [Act.put, zA]
    refine qT 7 ?v7 ?y7 HS ?r7
    case y7 =>
     refine qI fun wS hSw => ?_
     refine Eq.trans (exec_load_mid 139 (.tmp 26) ?_ wr.heap.size 1 ?_ (bs l) _ hSw.2.2 Tryz.undB rfl HB.out) ?_
     · rfl
     · rfl
     · with_reducible rfl
    try simp only [Act.put, zA]
    refine qT 8 ?v8 ?y8 HS ?r8
    case y8 => refine qI fun wS hSw => ?_; go_simp; try with_reducible rfl
    try simp only [Act.put, zA]
    refine qR 9 fun K hK => ?_
    rw [if_pos (by rfl)]
    refine wp_store_mid 139 _ _ rfl k (i * 16) (bs l).toArray rfl rfl (by show World.there _ _ _ (bs l).length; rw [bs_len, HX.out.2]; exact there_part (HG2.out.bel B3.out).kept.there HX.out.1) HB.out (all_oneCell_toArray (bs_one _)) ?_
    refine hK.out _ _ ⟨by have h0 := ((HG2.out.bel B3.out).setK HKL.out HX.out.1 HX.out.2).blk.cell 0; simpa using h0, (World.cell?_of_block ((grown_setCells k (bs l) (i * 16) w3).block wr.heap.size (by have := hV.lt; have := B3.out.size; omega) (by simpa using hv1))).trans HS.2.1, World.rangeAt_setCells_apart HS.2.2 _ _ _ (.inl hv1)⟩ (fun HS => ?_)
    clear hK K
    try simp only [Act.put]
    refine qD ?_
    have hG4 : Gen w1 (w3.setCells k (i * 16) (bs l)) F1 g s1 k q (some ⟨b, 0, none⟩) c1 (app (s1.W.take (j + 1)) s1.K) (app s1.W s1.K) := by
     rw [HTK.out, app_snoc]
     exact (HG2.out.bel B3.out).setK HKL.out HX.out.1 HX.out.2
    clear HS y0 y1 y2 hV HG2
    generalize w3.setCells k (i * 16) (bs l) = w4 at *
    have HG4 := hid hG4
    clear hG4
    go_wp2
    exact ⟨⟨j + 1, congrArg (Value.int .i64) wj, hid hlt, HG4⟩, by rw [wj]; simp [intOf]; omega⟩
  · have HJ : Hid (j = s1.W.length) := hid (by have := hj.out; omega)
    have j3 : decide ((j : Int) < (s1.W.length : Int)) = false := by simp; omega
    have j4 : decide (j < s1.W.length) = false := by simp; omega
    obtain ⟨hblk, f2⟩ := And.intro hG.out.blk (hG.out.blk.frozen 2)
    have y2 := hblk.cell 2
    simp at y2
    have HBL := hid hblk
    have HN : Hid (Left w1 (wr.setCell ⟨g, 2, none⟩ (.slice none 0 0)) F1 g s1.sync) := hid (by
     have hG' := hG.out
     rw [HJ.out, List.take_length] at hG'
     exact hG'.close (fun _ _ => rfl) hG'.ok.S s1.lim hG'.ok.lim (grown_setCell wr g 2 _) (HBL.out.store 2 _))
    clear hG hblk hj hge
    go_wp2
    go_ret
    exact ⟨rfl, Left.after HK1.out HF1.out HN.out⟩
def mix (V : Wr) (K S : Bl) : Bl := fun i => if V.any (fun x => x.1 == i) then K i else S i
theorem mix_snoc (V : Wr) (K S : Bl) (i : Nat) (b : List UInt8) : mix (V ++ [(i, b)]) K S = upd (mix V K S) i (K i) := by
 funext j
 unfold mix upd
 by_cases h : j = i
 · subst h; simp
 · have : (i == j) = false := by simpa using fun e => h e.symm
   rw [List.any_append, if_neg h]
   show (if (V.any _ || ((i == j) || false)) = true then _ else _) = _
   rw [this, Bool.or_false, Bool.or_false]
theorem mix_nil (K S : Bl) : mix [] K S = S := by funext j; simp [mix]
theorem mix_len (V : Wr) {K S : Bl} (hK : ∀ i, (K i).length = 16) (hS : ∀ i, (S i).length = 16) : ∀ i, (mix V K S i).length = 16 := by
 intro i
 unfold mix
 split
 · exact hK i
 · exact hS i
theorem mix_end (W : Wr) (K : Bl) (keep : List Bool) (i : Nat) : app (ke W keep) K i = mix W (app (ke W keep) K) (app W K) i := by
 unfold mix
 split
 · rfl
 · rename_i h
   have hn : ∀ x ∈ W, x.1 ≠ i := fun x hx e => h (List.any_eq_true.2 ⟨x, hx, by simpa using e⟩)
   rw [app_out W K i hn, app_out _ K i fun x hx => hn x (ke_mem _ _ x hx)]
theorem Lst.kp {w w' : World} {F : Nat → Prop} {A : Option Addr} {n : Nat} {xs : List Value} (h : Lst w 0 w.heap.size A n xs) (hk : Kp F w w') (hA : 0 < n → ∀ u, A.map (·.block) = some u → ¬ F u) : Lst w' 0 w'.heap.size A n xs :=
 ⟨h.1, fun hn => by
  obtain ⟨b, off, rfl, h1, h2, hc⟩ := h.2 hn
  have e := hk.block b h2 (hA hn b rfl)
  exact ⟨b, off, rfl, h1, Nat.lt_of_lt_of_le h2 hk.size, fun j u hu => (World.cell?_of_block (a := ⟨b, off + j, none⟩) e).trans (hc j u hu)⟩⟩
theorem crash_c (w1 : World) (F1 : Nat → Prop) (g : Nat) (s1 : St) (h : Dev w1 F1 g s1) (KA : Option Addr) (kn kc : Nat) (keep : List Bool) (hk : Lst w1 0 w1.heap.size KA kn (keep.map .bool)) (hA : 0 < kn → ∀ u, KA.map (·.block) = some u → ¬ F1 u) (hW : s1.W.length ≤ 1000000) :
 Calls Tryz.prog 27 #[.pointer (some ⟨g, 0, none⟩), .slice KA kn kc] w1 fun e w' => e = .returned (.tuple #[]) ∧ Left w1 w' F1 g (s1.crash keep) := by
 have HWl := hid hW
 have HKP := hid (fun wx (hx : Kp F1 w1 wx) => hk.kp hx hA)
 have hlk : keep.length = kn := by have := hk.len; simpa using this
 have HLK := hid hlk
 obtain ⟨k, q, A1, c1, hd⟩ := h
 obtain ⟨-, -, x2, -⟩ := hd.cells
 have HG := hid (Gen.of hd)
 clear hd hk hA hW hlk
 go_enter Tryz.func27, Tryz.ntmps27
 go_wp2_with fail
 go_loopw [15] (fun iv wr => ∃ j : Nat, iv = .int .i64 (j : Int) ∧ Hid (j ≤ s1.W.length) ∧ Hid (Gen w1 wr F1 g s1 k q A1 c1 (app (ke (s1.W.take j) keep) s1.K) (app s1.W s1.K))) (fun iv _ => s1.W.length - (intOf iv).toNat)
 case atStart => exact ⟨0, rfl, hid (Nat.zero_le _), HG⟩
 case round =>
  obtain ⟨j, rfl, hj, hG⟩ := hrel
  clear HG x2
  rcases Nat.lt_or_ge j s1.W.length with hlt | hge
  · have hlj : (s1.W.take j).length = j := by simp; omega
    have HKL : Hid (∀ i, (app (ke (s1.W.take j) keep) s1.K i).length = 16) := hid (app_len _ _ hG.out.ok.K fun x hx => (hG.out.ok.W x (List.mem_of_mem_take (ke_mem _ _ x hx))).2)
    obtain ⟨b, rfl, hb, hR⟩ := hG.out.elem hlt
    have hx := hG.out.ok.W s1.W[j] (List.getElem_mem hlt)
    have htk : s1.W.take (j + 1) = s1.W.take j ++ [(s1.W[j].1, s1.W[j].2)] := List.take_succ_eq_append_getElem hlt
    generalize s1.W[j].1 = i at *
    generalize s1.W[j].2 = l at *
    have HX := hid hx
    have HTK := hid htk
    have HR := hid hR
    obtain ⟨d, hd1, hd2⟩ := Tryz.undW2
    have HD := hid (And.intro hd1 hd2)
    have hel : (Value.int .i64 (i : Int) :: bs l).length = 17 := by rw [List.length_cons, bs_len, hx.2]
    have HIN : Hid ((Tryz.prog.info? 143).map (·.size) = some (Value.int .i64 (i : Int) :: bs l).length) := hid (by rw [hel]; exact Tryz.infoW1)
    have HT : Hid ((wr.alloc (.cells #[.int .i64 0, .int .u8 0, .int .u8 0, .int .u8 0, .int .u8 0, .int .u8 0, .int .u8 0, .int .u8 0, .int .u8 0, .int .u8 0, .int .u8 0, .int .u8 0, .int .u8 0, .int .u8 0, .int .u8 0, .int .u8 0, .int .u8 0] 143)).there wr.heap.size 0 (Value.int .i64 (i : Int) :: bs l).toArray.size) := hid (by show World.there _ _ 0 (Value.int .i64 (i : Int) :: bs l).length; rw [hel]; exact z17 wr)
    have HC : Hid ((Value.int .i64 (i : Int) :: bs l).toArray.all (·.oneCell') = true) := hid (all_oneCell_toArray (fun u hu => by rcases List.mem_cons.1 hu with rfl | hu; rfl; exact bs_one _ u hu))
    have j1 : (0 : Int) ≤ (j : Int) := by omega
    have j2 : (j : Int) < (s1.W.length : Int) := by omega
    have j3 : decide ((j : Int) < (s1.W.length : Int)) = true := by simpa using hlt
    have j4 : decide (j < s1.W.length) = true := by simpa using hlt
    have i1 : (0 : Int) ≤ (i : Int) := by omega
    have i2 : (i : Int) < (s1.n : Int) := by have := hx.1; omega
    have wj : wrap64 ((j : Int) + 1) = ((j + 1 : Nat) : Int) := by have := HWl.out; unfold wrap64; omega
    clear hx htk hR hd1 hd2 hel
    generalize hE : Value.int .i64 (i : Int) :: bs l = E at *
    as_aux_lemma =>
    go_upto_region 4 with (first | (refine wpList_load_mid rfl 143 _ rfl b (j * 17) rfl E d HR.out HD.out.1 HD.out.2 HIN.out ?_) | (refine wpList_store_mid rfl 143 _ _ rfl _ _ E.toArray rfl rfl HT.out HIN.out HC.out ?_))
    have hV : Var wr ((wr.alloc (.cells #[.int .i64 0, .int .u8 0, .int .u8 0, .int .u8 0, .int .u8 0, .int .u8 0, .int .u8 0, .int .u8 0, .int .u8 0, .int .u8 0, .int .u8 0, .int .u8 0, .int .u8 0, .int .u8 0, .int .u8 0, .int .u8 0, .int .u8 0] 143)).setCells wr.heap.size 0 E) i l := by rw [← hE]; exact Var.of wr i l HX.out.2
    simp only [Act.put]
    generalize (wr.alloc (.cells #[.int .i64 0, .int .u8 0, .int .u8 0, .int .u8 0, .int .u8 0, .int .u8 0, .int .u8 0, .int .u8 0, .int .u8 0, .int .u8 0, .int .u8 0, .int .u8 0, .int .u8 0, .int .u8 0, .int .u8 0, .int .u8 0, .int .u8 0] 143)).setCells wr.heap.size 0 E = w2 at *
    have HG2 := hid (hG.out.bel hV.bel)
    have HV1 : Hid (wr.heap.size ≠ k) := hid (by have := hG.out.kept.lt; omega)
    have HLs := hid (HKP.out w2 HG2.out.kp)
    clear HR HT HC HIN hE hb HKP hG
    rcases Nat.lt_or_ge j kn with hjk | hjk
    · obtain ⟨kb, ko, rfl, -, -, hcell⟩ := HLs.out.2 (by omega)
      have hjl : j < keep.length := by rw [HLK.out]; exact hjk
      have yk : w2.cell? ⟨kb, ko + j, none⟩ = some (.bool keep[j]) := hcell j _ (by rw [List.getElem?_map, List.getElem?_eq_getElem hjl]; rfl)
      have ek : keep[j]? = some keep[j] := List.getElem?_eq_getElem hjl
      have k2 : (j : Int) < (kn : Int) := by omega
      have k3 : decide ((j : Int) < (kn : Int)) = true := by simpa using hjk
      have k4 : decide (j < kn) = true := by simpa using hjk
      generalize keep[j] = kt at *
      have EK := hid ek
      clear hcell HLs ek
      cases kt
      · have EN : Hid (¬ keep[j]? = some true) := hid (by rw [EK.out]; decide)
        have hG4 : Gen w1 w2 F1 g s1 k q (some ⟨b, 0, none⟩) c1 (app (ke (s1.W.take (j + 1)) keep) s1.K) (app s1.W s1.K) := by
         rw [HTK.out, ke_snoc, if_neg (by rw [hlj]; exact EN.out), List.append_nil]
         exact HG2.out
        have HG4 := hid hG4
        clear hG4 HG2 hV
        go_wp2
        exact ⟨⟨j + 1, congrArg (Value.int .i64) wj, hid hlt, HG4⟩, by rw [wj]; simp [intOf]; omega⟩
      · have y0 := HG2.out.blk.cell 0
        simp at y0
        have y1 := hV.at_
        have y2 := hV.with_
        have HB : Hid ((Tryz.prog.info? 139).map (·.size) = some (bs l).length) := hid (by rw [bs_len, HX.out.2]; exact Tryz.infoB)
        have hv1 : wr.heap.size ≠ k := HV1.out
        as_aux_lemma =>
        go_wp2_with fail
        refine wp_region_held_drew (S := fun wx => wx.cell? ⟨g, 0, none⟩ = some (.slice (some ⟨k, 0, none⟩) s1.n s1.n) ∧ wx.cell? ⟨wr.heap.size, 0, none⟩ = some (.int .i64 (i : Int)) ∧ wx.rangeAt wr.heap.size 1 (bs l)) (by kernel_rfl) ⟨by simpa using y0, by simpa using y1, by simpa using y2⟩ (fun HS => ?_)
        have B3 : Hid (Below w2.heap.size w2 w2.drew) := hid ((Below.refl _ _).drew)
        generalize w2.drew = w3 at *
        refine qT 0 ?v0 ?y0 HS ?r0
        case y0 => refine qI fun wS hSw => ?_; go_simp; try with_reducible rfl
        try simp only [Act.put, zA]
        refine qT 1 ?v1 ?y1 HS ?r1
        case y1 => refine qI fun wS hSw => ?_; go_simp; try with_reducible rfl
        try simp only [Act.put, zA]
        refine qT 2 ?v2 ?y2 HS ?r2
        case y2 => refine qI fun wS hSw => ?_; go_simp; try with_reducible rfl
        try simp only [Act.put, zA]
        refine qT 3 ?v3 ?y3 HS ?r3
        case y3 =>
         refine qI fun wS hSw => ?_
         obtain ⟨z0, z1, z2⟩ := hSw
         go_simp
         try with_reducible rfl
        try simp only [Act.put, zA]
        refine qT 4 ?v4 ?y4 HS ?r4
        case y4 => refine qI fun wS hSw => ?_; go_simp; try with_reducible rfl
        try simp only [Act.put, zA]
        refine qT 5 ?v5 ?y5 HS ?r5
        case y5 =>
         refine qI fun wS hSw => ?_
         obtain ⟨z0, z1, z2⟩ := hSw
         go_simp
         try with_reducible rfl
        try simp only [Act.put, zA]
        refine qT 6 ?v6 ?y6 HS ?r6
        case y6 => refine qI fun wS hSw => ?_; go_simp; try with_reducible rfl
        try simp only [Act.put, zA]
        refine qT 7 ?v7 ?y7 HS ?r7
        case y7 =>
         refine qI fun wS hSw => ?_
         refine Eq.trans (exec_load_mid 139 (.tmp 36) ?_ wr.heap.size 1 ?_ (bs l) _ hSw.2.2 Tryz.undB rfl HB.out) ?_
         · rfl
         · rfl
         · with_reducible rfl
        try simp only [Act.put, zA]
        refine qT 8 ?v8 ?y8 HS ?r8
        case y8 => refine qI fun wS hSw => ?_; go_simp; try with_reducible rfl
        try simp only [Act.put, zA]
        refine qR 9 fun K hK => ?_
        rw [if_pos (by rfl)]
        refine wp_store_mid 139 _ _ rfl k (i * 16) (bs l).toArray rfl rfl (by show World.there _ _ _ (bs l).length; rw [bs_len, HX.out.2]; exact there_part (HG2.out.bel B3.out).kept.there HX.out.1) HB.out (all_oneCell_toArray (bs_one _)) ?_
        refine hK.out _ _ ⟨by have h0 := ((HG2.out.bel B3.out).setK HKL.out HX.out.1 HX.out.2).blk.cell 0; simpa using h0, (World.cell?_of_block ((grown_setCells k (bs l) (i * 16) w3).block wr.heap.size (by have := hV.lt; have := B3.out.size; omega) (by simpa using hv1))).trans HS.2.1, World.rangeAt_setCells_apart HS.2.2 _ _ _ (.inl hv1)⟩ (fun HS => ?_)
        clear hK K
        try simp only [Act.put]
        refine qD ?_
        have hG4 : Gen w1 (w3.setCells k (i * 16) (bs l)) F1 g s1 k q (some ⟨b, 0, none⟩) c1 (app (ke (s1.W.take (j + 1)) keep) s1.K) (app s1.W s1.K) := by
         rw [HTK.out, ke_snoc, if_pos (by rw [hlj]; exact EK.out), app_snoc]
         exact (HG2.out.bel B3.out).setK HKL.out HX.out.1 HX.out.2
        clear HS y0 y1 y2 hV HG2 yk
        generalize w3.setCells k (i * 16) (bs l) = w4 at *
        have HG4 := hid hG4
        clear hG4
        go_wp2
        exact ⟨⟨j + 1, congrArg (Value.int .i64) wj, hid hlt, HG4⟩, by rw [wj]; simp [intOf]; omega⟩
    · have EN : Hid (¬ keep[j]? = some true) := hid (by rw [List.getElem?_eq_none (by rw [HLK.out]; exact hjk)]; simp)
      have k3 : decide ((j : Int) < (kn : Int)) = false := by simp; omega
      have k4 : decide (j < kn) = false := by simp; omega
      clear HLs
      have hG4 : Gen w1 w2 F1 g s1 k q (some ⟨b, 0, none⟩) c1 (app (ke (s1.W.take (j + 1)) keep) s1.K) (app s1.W s1.K) := by
       rw [HTK.out, ke_snoc, if_neg (by rw [hlj]; exact EN.out), List.append_nil]
       exact HG2.out
      have HG4 := hid hG4
      clear hG4 HG2 hV
      go_wp2
      exact ⟨⟨j + 1, congrArg (Value.int .i64) wj, hid hlt, HG4⟩, by rw [wj]; simp [intOf]; omega⟩
  · have HJ : Hid (j = s1.W.length) := hid (by have := hj.out; omega)
    have j3 : decide ((j : Int) < (s1.W.length : Int)) = false := by simp; omega
    have j4 : decide (j < s1.W.length) = false := by simp; omega
    have hG' := hG.out
    rw [HJ.out, List.take_length] at hG'
    have HKL : Hid (∀ i, (app (ke s1.W keep) s1.K i).length = 16) := hid (app_len _ _ hG'.ok.K fun x hx => (hG'.ok.W x (ke_mem _ _ x hx)).2)
    have HSL : Hid (∀ V i, (mix V (app (ke s1.W keep) s1.K) (app s1.W s1.K) i).length = 16) := hid (fun V => mix_len V HKL.out hG'.ok.S)
    have HC : Hid (s1.crash keep = { n := s1.n, K := app (ke s1.W keep) s1.K, W := [], lim := none }) := hid rfl
    have HEND := hid (fun i => mix_end s1.W s1.K keep i)
    have hG2 : Gen w1 wr F1 g s1 k q A1 c1 (app (ke s1.W keep) s1.K) (mix (s1.W.take 0) (app (ke s1.W keep) s1.K) (app s1.W s1.K)) := by rw [List.take_zero, mix_nil]; exact hG'
    generalize app (ke s1.W keep) s1.K = K' at *
    generalize app s1.W s1.K = S' at *
    have y2 := hG2.blk.cell 2
    simp at y2
    have HG2 := hid hG2
    clear hG hG' hG2 hj hge HKP HLK
    as_aux_lemma =>
    go_wp2_with fail
    go_loopw [45] (fun iv wz => ∃ j : Nat, iv = .int .i64 (j : Int) ∧ Hid (j ≤ s1.W.length) ∧ Hid (Gen w1 wz F1 g s1 k q A1 c1 K' (mix (s1.W.take j) K' S'))) (fun iv _ => s1.W.length - (intOf iv).toNat)
    case atStart => exact ⟨0, rfl, hid (Nat.zero_le _), HG2⟩
    case round =>
     obtain ⟨j, rfl, hj, hG⟩ := hrel
     clear HG2 y2 j3 j4 HJ
     rcases Nat.lt_or_ge j s1.W.length with hlt | hge
     · skip
       obtain ⟨b, rfl, hb, hR⟩ := hG.out.elem hlt
       have hx := hG.out.ok.W s1.W[j] (List.getElem_mem hlt)
       have htk : s1.W.take (j + 1) = s1.W.take j ++ [(s1.W[j].1, s1.W[j].2)] := List.take_succ_eq_append_getElem hlt
       generalize s1.W[j].1 = i at *
       generalize s1.W[j].2 = l2 at *
       have HX := hid hx
       have HTK := hid htk
       have HR := hid hR
       obtain ⟨d, hd1, hd2⟩ := Tryz.undW2
       have HD := hid (And.intro hd1 hd2)
       have hel : (Value.int .i64 (i : Int) :: bs l2).length = 17 := by rw [List.length_cons, bs_len, hx.2]
       have HIN : Hid ((Tryz.prog.info? 143).map (·.size) = some (Value.int .i64 (i : Int) :: bs l2).length) := hid (by rw [hel]; exact Tryz.infoW1)
       have HT : Hid ((wr.alloc (.cells #[.int .i64 0, .int .u8 0, .int .u8 0, .int .u8 0, .int .u8 0, .int .u8 0, .int .u8 0, .int .u8 0, .int .u8 0, .int .u8 0, .int .u8 0, .int .u8 0, .int .u8 0, .int .u8 0, .int .u8 0, .int .u8 0, .int .u8 0] 143)).there wr.heap.size 0 (Value.int .i64 (i : Int) :: bs l2).toArray.size) := hid (by show World.there _ _ 0 (Value.int .i64 (i : Int) :: bs l2).length; rw [hel]; exact z17 wr)
       have HC2 : Hid ((Value.int .i64 (i : Int) :: bs l2).toArray.all (·.oneCell') = true) := hid (all_oneCell_toArray (fun u hu => by rcases List.mem_cons.1 hu with rfl | hu; rfl; exact bs_one _ u hu))
       have j1 : (0 : Int) ≤ (j : Int) := by omega
       have j2 : (j : Int) < (s1.W.length : Int) := by omega
       have j3 : decide ((j : Int) < (s1.W.length : Int)) = true := by simpa using hlt
       have j4 : decide (j < s1.W.length) = true := by simpa using hlt
       have i1 : (0 : Int) ≤ (i : Int) := by omega
       have i2 : (i : Int) < (s1.n : Int) := by have := hx.1; omega
       have wj : wrap64 ((j : Int) + 1) = ((j + 1 : Nat) : Int) := by have := HWl.out; unfold wrap64; omega
       clear hx htk hR hd1 hd2 hel
       generalize hE : Value.int .i64 (i : Int) :: bs l2 = E at *
       obtain ⟨l, hl⟩ : ∃ l, l = K' i := ⟨_, rfl⟩
       have HL := hid hl
       have HX0 := HX
       have HX : Hid (i < s1.n ∧ l.length = 16) := hid ⟨HX.out.1, by rw [HL.out]; exact HKL.out i⟩
       clear hl
       as_aux_lemma =>
       go_upto_region 10 with (first | (refine wpList_load_mid rfl 143 _ rfl b (j * 17) rfl E d HR.out HD.out.1 HD.out.2 HIN.out ?_) | (refine wpList_store_mid rfl 143 _ _ rfl _ _ E.toArray rfl rfl HT.out HIN.out HC2.out ?_))
       have hV : Var wr ((wr.alloc (.cells #[.int .i64 0, .int .u8 0, .int .u8 0, .int .u8 0, .int .u8 0, .int .u8 0, .int .u8 0, .int .u8 0, .int .u8 0, .int .u8 0, .int .u8 0, .int .u8 0, .int .u8 0, .int .u8 0, .int .u8 0, .int .u8 0, .int .u8 0] 143)).setCells wr.heap.size 0 E) i l2 := by rw [← hE]; exact Var.of wr i l2 HX0.out.2
       simp only [Act.put]
       generalize (wr.alloc (.cells #[.int .i64 0, .int .u8 0, .int .u8 0, .int .u8 0, .int .u8 0, .int .u8 0, .int .u8 0, .int .u8 0, .int .u8 0, .int .u8 0, .int .u8 0, .int .u8 0, .int .u8 0, .int .u8 0, .int .u8 0, .int .u8 0, .int .u8 0] 143)).setCells wr.heap.size 0 E = w2 at *
       have HG2 := hid (hG.out.bel hV.bel)
       have y0 := HG2.out.blk.cell 0
       have y1 := HG2.out.blk.cell 1
       simp at y0 y1
       have y2 := hV.at_
       have y3 : w2.rangeAt k (i * 16) (bs l) := by rw [HL.out]; exact HG2.out.kept.row i HX.out.1
       have HB : Hid ((Tryz.prog.info? 139).map (·.size) = some (bs l).length) := hid (by rw [bs_len, HX.out.2]; exact Tryz.infoB)
       have hv1 : wr.heap.size ≠ q := by have := hG.out.seen.lt; omega
       have HSL : Hid (∀ i, (mix (s1.W.take j) K' S' i).length = 16) := hid (HSL.out _)
       clear HR HT HC2 HIN hE hb hG
       refine wp_region_held_drew (S := fun wx => wx.cell? ⟨g, 0, none⟩ = some (.slice (some ⟨k, 0, none⟩) s1.n s1.n) ∧ wx.cell? ⟨g, 1, none⟩ = some (.slice (some ⟨q, 0, none⟩) s1.n s1.n) ∧ wx.cell? ⟨wr.heap.size, 0, none⟩ = some (.int .i64 (i : Int)) ∧ wx.rangeAt k (i * 16) (bs l)) (by kernel_rfl) ⟨by simpa using y0, by simpa using y1, by simpa using y2, by simpa using y3⟩ (fun HS => ?_)
       have B3 : Hid (Below w2.heap.size w2 w2.drew) := hid ((Below.refl _ _).drew)
       generalize w2.drew = w3 at *
       refine qT 0 ?vz0 ?yz0 HS ?rz0
       case yz0 => refine qI fun wS hSw => ?_; go_simp; try with_reducible rfl
       try simp only [Act.put, zA]
       refine qT 1 ?vz1 ?yz1 HS ?rz1
       case yz1 => refine qI fun wS hSw => ?_; go_simp; try with_reducible rfl
       try simp only [Act.put, zA]
       refine qT 2 ?vz2 ?yz2 HS ?rz2
       case yz2 => refine qI fun wS hSw => ?_; go_simp; try with_reducible rfl
       try simp only [Act.put, zA]
       refine qT 3 ?vz3 ?yz3 HS ?rz3
       case yz3 =>
        refine qI fun wS hSw => ?_
        obtain ⟨z0, z1, z2, z3⟩ := hSw
        go_simp
        try with_reducible rfl
       try simp only [Act.put, zA]
       refine qT 4 ?vz4 ?yz4 HS ?rz4
       case yz4 => refine qI fun wS hSw => ?_; go_simp; try with_reducible rfl
       try simp only [Act.put, zA]
       refine qT 5 ?vz5 ?yz5 HS ?rz5
       case yz5 =>
        refine qI fun wS hSw => ?_
        obtain ⟨z0, z1, z2, z3⟩ := hSw
        go_simp
        try with_reducible rfl
       try simp only [Act.put, zA]
       refine qT 6 ?vz6 ?yz6 HS ?rz6
       case yz6 => refine qI fun wS hSw => ?_; go_simp; try with_reducible rfl
       try simp only [Act.put, zA]
       refine qT 7 ?vz7 ?yz7 HS ?rz7
       case yz7 => refine qI fun wS hSw => ?_; go_simp; try with_reducible rfl
       try simp only [Act.put, zA]
       refine qT 8 ?vz8 ?yz8 HS ?rz8
       case yz8 => refine qI fun wS hSw => ?_; go_simp; try with_reducible rfl
       try simp only [Act.put, zA]
       refine qT 9 ?vz9 ?yz9 HS ?rz9
       case yz9 =>
        refine qI fun wS hSw => ?_
        obtain ⟨z0, z1, z2, z3⟩ := hSw
        go_simp
        try with_reducible rfl
       try simp only [Act.put, zA]
       refine qT 10 ?vz10 ?yz10 HS ?rz10
       case yz10 => refine qI fun wS hSw => ?_; go_simp; try with_reducible rfl
       try simp only [Act.put, zA]
       refine qT 11 ?vz11 ?yz11 HS ?rz11
       case yz11 =>
        refine qI fun wS hSw => ?_
        obtain ⟨z0, z1, z2, z3⟩ := hSw
        go_simp
        try with_reducible rfl
       try simp only [Act.put, zA]
       refine qT 12 ?vz12 ?yz12 HS ?rz12
       case yz12 => refine qI fun wS hSw => ?_; go_simp; try with_reducible rfl
       try simp only [Act.put, zA]
       refine qT 13 ?vz13 ?yz13 HS ?rz13
       case yz13 =>
        refine qI fun wS hSw => ?_
        refine Eq.trans (exec_load_mid 139 (.tmp 61) ?_ k (i * 16) ?_ (bs l) _ hSw.2.2.2 Tryz.undB rfl HB.out) ?_
        · rfl
        · rfl
        · with_reducible rfl
       try simp only [Act.put, zA]
       refine qT 14 ?vz14 ?yz14 HS ?rz14
       case yz14 => refine qI fun wS hSw => ?_; go_simp; try with_reducible rfl
       try simp only [Act.put, zA]
       refine qR 15 fun K hK => ?_
       rw [if_pos (by rfl)]
       refine wp_store_mid 139 _ _ rfl q (i * 16) (bs l).toArray rfl rfl (by show World.there _ _ _ (bs l).length; rw [bs_len, HX.out.2]; exact there_part (HG2.out.bel B3.out).seen.there HX.out.1) HB.out (all_oneCell_toArray (bs_one _)) ?_
       refine hK.out _ _ ⟨by have h0 := ((HG2.out.bel B3.out).setS HSL.out HX.out.1 HX.out.2).blk.cell 0; simpa using h0, by have h0 := ((HG2.out.bel B3.out).setS HSL.out HX.out.1 HX.out.2).blk.cell 1; simpa using h0, (World.cell?_of_block ((grown_setCells q (bs l) (i * 16) w3).block wr.heap.size (by have := hV.lt; have := B3.out.size; omega) (by simpa using hv1))).trans HS.2.2.1, World.rangeAt_setCells_apart HS.2.2.2 _ _ _ (.inl HG2.out.kq)⟩ (fun HS => ?_)
       clear hK K
       try simp only [Act.put]
       refine qD ?_
       have hG4 : Gen w1 (w3.setCells q (i * 16) (bs l)) F1 g s1 k q (some ⟨b, 0, none⟩) c1 K' (mix (s1.W.take (j + 1)) K' S') := by
        rw [HTK.out, mix_snoc, ← HL.out]
        exact (HG2.out.bel B3.out).setS HSL.out HX.out.1 HX.out.2
       clear HS y0 y1 y2 y3 hV HG2
       generalize w3.setCells q (i * 16) (bs l) = w4 at *
       have HG4 := hid hG4
       clear hG4
       go_wp2
       exact ⟨⟨j + 1, congrArg (Value.int .i64) wj, hid hlt, HG4⟩, by rw [wj]; simp [intOf]; omega⟩
     · have HJ : Hid (j = s1.W.length) := hid (by have := hj.out; omega)
       have j3 : decide ((j : Int) < (s1.W.length : Int)) = false := by simp; omega
       have j4 : decide (j < s1.W.length) = false := by simp; omega
       have hG' := hG.out
       rw [HJ.out, List.take_length] at hG'
       have y2 := hG'.blk.cell 2
       have y3 := hG'.blk.cell 3
       have y4 := hG'.blk.cell 4
       have f2 := hG'.blk.frozen 2
       have f3 := hG'.blk.frozen 3
       have f4 := hG'.blk.frozen 4
       simp at y2 y3 y4
       have HN : Hid (Left w1 (((wr.setCell ⟨g, 2, none⟩ (.slice none 0 0)).setCell ⟨g, 3, none⟩ (.bool false)).setCell ⟨g, 4, none⟩ (.int .i64 0)) F1 g (s1.crash keep)) := hid (by
        rw [HC.out]
        exact hG'.close (fun i _ => HEND.out i) HKL.out none (fun d hd => by cases hd) (((grown_setCell wr g 2 _).trans (grown_setCell _ g 3 _)).trans (grown_setCell _ g 4 _)) (((hG'.blk.store 2 _).store 3 _).store 4 _))
       clear hG hG' hj hge
       go_wp2
       go_end0
       exact ⟨rfl, HN.out⟩
theorem dstr_app (a b : List UInt8) : str a ++ str b = str (a ++ b) := ByteArray.mk_append_mk a b
theorem full_c (l : List UInt8) (w : World) (hl : l.length ≤ 16) :
 Calls Tryz.prog 44 #[.string (str l)] w fun e w' => e = .returned (.string (str (pad l))) ∧ w = w' := by
 have HL := hid hl
 clear hl
 go_enter Tryz.func44, Tryz.ntmps44
 go_wp2_with fail
 go_loopw [0] (fun v wr => ∃ m : Nat, v = .string (str (l ++ List.replicate m 0)) ∧ Hid (l.length + m ≤ 16) ∧ w = wr) (fun v _ => match v with | .string s => 16 - s.size | _ => 0)
 case atStart => exact ⟨0, by simp, hid (by simpa using HL.out), rfl⟩
 case round =>
  obtain ⟨m, rfl, hm, rfl⟩ := hrel
  have hsz : (str (l ++ List.replicate m 0)).size = l.length + m := by rw [str_size]; simp
  rcases Nat.lt_or_ge (l.length + m) 16 with h | h
  · have e1 : decide (((str (l ++ List.replicate m 0)).size : Int) < 16) = true := by rw [hsz]; simp; omega
    have e2 : decide ((str (l ++ List.replicate m 0)).size < 16) = true := by rw [hsz]; simp; omega
    have k1 : ¬ 9223372036854775807 < (str (l ++ List.replicate m 0)).size + 1 := by rw [hsz]; omega
    have hap : str (l ++ List.replicate m 0) ++ (⟨#[0]⟩ : ByteArray) = str (l ++ List.replicate (m + 1) 0) := by
     rw [show (⟨#[0]⟩ : ByteArray) = str [0] from rfl, dstr_app, List.append_assoc, List.replicate_succ']
    have hsz2 : (str (l ++ List.replicate (m + 1) 0)).size = l.length + (m + 1) := by rw [str_size]; simp
    generalize ht2 : str (l ++ List.replicate (m + 1) 0) = t2 at *
    generalize str (l ++ List.replicate m 0) = t1 at *
    have H1 := hid hsz
    have H2 := hid hsz2
    have HT := hid ht2
    clear hsz hsz2 ht2
    go_wp2
    refine ⟨⟨m + 1, congrArg Value.string HT.out.symm, hid (by omega), by first | trivial | rfl⟩, ?_⟩
    show 16 - t2.size < 16 - t1.size
    rw [H1.out, H2.out]
    omega
  · have hp : str (l ++ List.replicate m 0) = str (pad l) := by
     have : m = 16 - l.length := by have := hm.out; omega
     rw [this]
     rfl
    have e1 : decide (((str (l ++ List.replicate m 0)).size : Int) < 16) = false := by rw [hsz]; simp; omega
    have e2 : decide ((str (l ++ List.replicate m 0)).size < 16) = false := by rw [hsz]; simp; omega
    rw [hp] at e1 e2 ⊢
    clear hsz hp
    go_wp2
    go_ret
    exact ⟨rfl, rfl⟩
theorem over_bad (w : World) (F : Nat → Prop) (g : Nat) (s : St) (h : Dev w F g s) (i : Int) (A : Option Addr) (n c : Nat) (hb : bad s i n) :
 Calls Tryz.prog 22 #[.pointer (some ⟨g, 0, none⟩), .int .i64 i, .slice A n c] w fun e w' => e = .returned (.int .i64 2) ∧ Below w.heap.size w w' := by
 have hbel : ∀ o, Below w.heap.size w (w.alloc o) := fun o => (Below.refl _ _).alloc (nl _) _
 have hw := fun o => wrong_bad (w.alloc o) F g s (h.bel (hbel o)) i A n c hb
 clear h hb
 go_enter Tryz.func22, Tryz.ntmps22
 go_wp2_with fail
 refine (hw _).mono ?_
 rintro e w' ⟨rfl, rfl⟩
 go_wp2
 go_ret
 exact ⟨rfl, hbel _⟩
theorem Dev.no {w : World} {F : Nat → Prop} {g : Nat} {s : St} (h : Dev w F g s) {b : Nat} (hb : w.heap.size ≤ b) : ¬ F b := fun e => by have := h.lt b e; omega
end Go.Proofs.YtolaojkcofbkhaaGreat
