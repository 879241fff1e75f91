/- What Sync of a device does: all writes are kept, or an error. -/
import Derived.Test.YtdgcoipflenlgaaDvWrite
namespace Go.Proofs.Ytdgcoipflenlgaa
open Go.RowKit

/-- In the midst of a call: kept and seen are laid anew, the rest is as it was. -/
structure Gen (w0 w : World) (F : Nat → Prop) (g : Nat) (s : St) (k q : Nat) (A : Option Addr) (c : Nat) (K S : Bl) : Prop where
  blk : Blk w g 60 #[.slice (some ⟨k, 0, none⟩) s.n s.n, .slice (some ⟨q, 0, none⟩) s.n s.n, .slice A s.W.length c, .bool s.lim.isSome, .int .i64 ((s.lim.getD 0 : Nat) : Int)]
  kept : Rows w k s.n K
  seen : Rows w q s.n S
  wait : w.ownsRow 0 65 17 (.slice A s.W.length c) s.W.length (wcs s.W)
  kp : Kp F w0 w
  gk : g ≠ k
  gq : g ≠ q
  kq : k ≠ q
  Ag : ∀ b, A.map (·.block) = some b → b ≠ g ∧ b ≠ k ∧ b ≠ q ∧ F b
  Fg : F g
  Fk : F k
  Fq : F q
  F : ∀ j, F j → j < w0.heap.size
  ok : s.ok
section
variable {w0 w : World} {F : Nat → Prop} {g : Nat} {s : St} {k q c : Nat} {A : Option Addr} {K S : Bl}
theorem Gen.of (h : DevAt w F g s k q A c) : Gen w w F g s k q A c s.K (app s.W s.K) :=
  ⟨h.blk, h.kept, h.seen, h.wait, Kp.refl _ _, h.gk, h.gq, h.kq, h.Ag, h.Fg, h.Fk, h.Fq, h.F, h.ok⟩
theorem Gen.lt (h : Gen w0 w F g s k q A c K S) (j : Nat) (hj : F j) : j < w.heap.size := Nat.lt_of_lt_of_le (h.F j hj) h.kp.size
theorem Gen.bel (h : Gen w0 w F g s k q A c K S) {w' : World} (hb : Below w.heap.size w w') : Gen w0 w' F g s k q A c K S :=
  ⟨h.blk.keep (hb.block g h.blk.lt), h.kept.keep hb.size (hb.block k h.kept.lt), h.seen.keep hb.size (hb.block q h.seen.lt), own_keep h.wait fun b hA => hb.block b (own_lt h.wait b hA), h.kp.trans (Kp.ofBelow hb), h.gk, h.gq, h.kq, h.Ag, h.Fg, h.Fk, h.Fq, h.F, h.ok⟩
theorem Gen.setK (h : Gen w0 w F g s k q A c K S) (hK : ∀ i, (K i).length = 16) {i : Nat} (hi : i < s.n) {b : List UInt8} (hb : b.length = 16) : Gen w0 (w.setCells k (i * 16) (bs b)) F g s k q A c (upd K i b) S := by
  have hg := grown_setCells k (bs b) (i * 16) w
  exact ⟨h.blk.keep (hg.block g (h.lt g h.Fg) (by simpa using h.gk)), h.kept.put hK hi hb, h.seen.other (Ne.symm h.kq) _ _, own_keep h.wait (fun b hb => hg.block b (own_lt h.wait b hb) (by simpa using (h.Ag b hb).2.1)), h.kp.trans (Kp.setCells w k _ _ h.Fk), h.gk, h.gq, h.kq, h.Ag, h.Fg, h.Fk, h.Fq, h.F, h.ok⟩
theorem Gen.setS (h : Gen w0 w F g s k q A c K S) (hS : ∀ i, (S i).length = 16) {i : Nat} (hi : i < s.n) {b : List UInt8} (hb : b.length = 16) : Gen w0 (w.setCells q (i * 16) (bs b)) F g s k q A c K (upd S i b) := by
  have hg := grown_setCells q (bs b) (i * 16) w
  exact ⟨h.blk.keep (hg.block g (h.lt g h.Fg) (by simpa using h.gq)), h.kept.other h.kq _ _, h.seen.put hS hi hb, own_keep h.wait (fun b hb => hg.block b (own_lt h.wait b hb) (by simpa using (h.Ag b hb).2.2.1)), h.kp.trans (Kp.setCells w q _ _ h.Fq), h.gk, h.gq, h.kq, h.Ag, h.Fg, h.Fk, h.Fq, h.F, h.ok⟩
theorem Gen.close (h : Gen w0 w F g s k q A c K S) (hS : ∀ i, i < s.n → K i = S i) (hK : ∀ i, (K i).length = 16) (l : Option Nat) (hl : ∀ d, l = some d → d ≤ 9223372036854775807) {w' : World} (hw : w.grownBy w' (some g))
    (hb : Blk w' g 60 #[.slice (some ⟨k, 0, none⟩) s.n s.n, .slice (some ⟨q, 0, none⟩) s.n s.n, .slice none 0 0, .bool l.isSome, .int .i64 ((l.getD 0 : Nat) : Int)]) : Left w0 w' F g { n := s.n, K := K, W := [], lim := l } :=
  ⟨F, ⟨k, q, none, 0, hb, h.kept.keep hw.size (hw.block k h.kept.lt (by simpa using Ne.symm h.gk)), (h.seen.keep hw.size (hw.block q h.seen.lt (by simpa using Ne.symm h.gq))).same fun i hi => hS i hi,
    ⟨rfl, .inl ⟨rfl, rfl⟩⟩, h.gk, h.gq, h.kq, fun b hb => (by cases hb), h.Fg, h.Fk, h.Fq, fun j hj => Nat.lt_of_lt_of_le (h.lt j hj) hw.size, ⟨h.ok.n1, h.ok.n2, hK, fun x hx => (by cases hx), hl⟩⟩,
   h.kp.trans (Kp.grown hw fun j hj => by injection hj with hj; subst hj; exact .inl h.Fg), fun j hj => .inl hj⟩
theorem Gen.elem (h : Gen w0 w F g s k q A c K S) {j : Nat} (hj : j < s.W.length) : ∃ b, A = some ⟨b, 0, none⟩ ∧ b < w.heap.size ∧ w.rangeAt b (j * 17) (.int .i64 (s.W[j].1 : Int) :: bs s.W[j].2) := by
  obtain ⟨b, hA, hb, hr⟩ := own_range h.wait (by omega)
  refine ⟨b, hA, hb, fun t u hu => ?_⟩
  have := hr (j * 17 + t) u (wcs_at s.W (fun x hx => (h.ok.W x hx).2) hj t u hu)
  rwa [Nat.zero_add] at this
end
theorem z17 (w : World) : (w.alloc (.cells #[.int .i64 0, .int .u8 0, .int .u8 0, .int .u8 0, .int .u8 0, .int .u8 0, .int .u8 0, .int .u8 0, .int .u8 0, .int .u8 0, .int .u8 0, .int .u8 0, .int .u8 0, .int .u8 0, .int .u8 0, .int .u8 0, .int .u8 0] 65)).there w.heap.size 0 17 := by
  have hB := Blk.new w 65 #[.int .i64 0, .int .u8 0, .int .u8 0, .int .u8 0, .int .u8 0, .int .u8 0, .int .u8 0, .int .u8 0, .int .u8 0, .int .u8 0, .int .u8 0, .int .u8 0, .int .u8 0, .int .u8 0, .int .u8 0, .int .u8 0, .int .u8 0]
  refine fun j hj => ⟨?_, hB.frozen _⟩
  rw [hB.cell, Nat.zero_add, Array.getElem?_eq_getElem (by simpa using hj)]
  rfl
theorem Try.undW2 : ∃ d, Try.prog.underlying 65 = some d ∧ d.isRow = true := by
  have := Try.undW
  cases h : Try.prog.underlying 65 with
  | none => rw [h] at this; cases this
  | some d => rw [h] at this; exact ⟨d, rfl, by simpa using this⟩
/-- The variable of a round: a write's cells in a block of their own. -/
structure Var (w w1 : World) (i : Nat) (b : List UInt8) : Prop where
  bel : Below w.heap.size w w1
  at_ : w1.cell? ⟨w.heap.size, 0, none⟩ = some (.int .i64 (i : Int))
  with_ : w1.rangeAt w.heap.size 1 (bs b)
  lt : w.heap.size < w1.heap.size
theorem Var.of (w : World) (i : Nat) (b : List UInt8) (hb : b.length = 16) : Var w ((w.alloc (.cells #[.int .i64 0, .int .u8 0, .int .u8 0, .int .u8 0, .int .u8 0, .int .u8 0, .int .u8 0, .int .u8 0, .int .u8 0, .int .u8 0, .int .u8 0, .int .u8 0, .int .u8 0, .int .u8 0, .int .u8 0, .int .u8 0, .int .u8 0] 65)).setCells w.heap.size 0 (.int .i64 (i : Int) :: bs b)) i b := by
  have hr : ((w.alloc (.cells #[.int .i64 0, .int .u8 0, .int .u8 0, .int .u8 0, .int .u8 0, .int .u8 0, .int .u8 0, .int .u8 0, .int .u8 0, .int .u8 0, .int .u8 0, .int .u8 0, .int .u8 0, .int .u8 0, .int .u8 0, .int .u8 0, .int .u8 0] 65)).setCells w.heap.size 0 (.int .i64 (i : Int) :: bs b)).rangeAt w.heap.size 0 (.int .i64 (i : Int) :: bs b) := World.rangeAt_setCells_same _ _ _ _ (by simp only [List.length_cons, bs_len, hb]; exact z17 w)
  have hg := grown_setCells w.heap.size (.int .i64 (i : Int) :: bs b) 0 (w.alloc (.cells #[.int .i64 0, .int .u8 0, .int .u8 0, .int .u8 0, .int .u8 0, .int .u8 0, .int .u8 0, .int .u8 0, .int .u8 0, .int .u8 0, .int .u8 0, .int .u8 0, .int .u8 0, .int .u8 0, .int .u8 0, .int .u8 0, .int .u8 0] 65))
  refine ⟨((Below.refl _ _).alloc (Nat.le_refl _) _).grown hg (by simp) (fun k hk => by injection hk with hk; omega), hr 0 _ rfl, fun j v hv => ?_, Nat.lt_of_lt_of_le (by simp) hg.size⟩
  have := hr (j + 1) v (by simpa using hv)
  rwa [Nat.zero_add, Nat.add_comm j 1] at this

theorem sync_nil (w : World) :
    Calls Try.prog 13 #[.pointer none] w fun e w' => e = .returned (.int .i64 1) ∧ w = w' := by
  go_enter Try.func13, Try.ntmps13
  go_wp2_with fail
  refine (count_nil w).mono ?_
  rintro e w' ⟨rfl, rfl⟩
  go_wp2
  go_ret
  exact ⟨rfl, rfl⟩
theorem sync_off (w : World) (F : Nat → Prop) (g : Nat) (s : St) (h : Dev w F g s) (ho : s.lim = some 0) :
    Calls Try.prog 13 #[.pointer (some ⟨g, 0, none⟩)] w fun e w' => e = .returned (.int .i64 40) ∧ w = w' := by
  have hc := count_off w F g s h ho
  clear h
  go_enter Try.func13, Try.ntmps13
  go_wp2_with fail
  refine hc.mono ?_
  rintro e w' ⟨rfl, rfl⟩
  go_wp2
  go_ret
  exact ⟨rfl, rfl⟩

set_option maxRecDepth 20000 in
set_option maxHeartbeats 4000000 in
theorem sync_c (w : World) (F : Nat → Prop) (g : Nat) (s : St) (h : Dev w F g s) (ho : s.lim ≠ some 0) (hW : s.W.length ≤ 1000000) :
    Calls Try.prog 13 #[.pointer (some ⟨g, 0, none⟩)] w fun e w' => e = .returned (.int .i64 0) ∧ Left w w' F g s.sync.dec := by
  have hc := count_on w F g s h ho
  have HWl : Hid (s.dec.W.length ≤ 1000000) := hid hW
  have HE : Hid (s.sync.dec = s.dec.sync) := hid rfl
  rw [HE.out]
  generalize s.dec = s1 at *
  clear h ho hW HE
  go_enter Try.func13, Try.ntmps13
  go_wp2_with fail
  refine hc.mono ?_
  rintro e w1 ⟨rfl, F1, hd1, hk1, hF1⟩
  have HK1 := hid hk1
  have HF1 := hid hF1
  clear hc hk1 hF1
  obtain ⟨k, q, A1, c1, hd⟩ := hd1
  obtain ⟨-, -, x2, -⟩ := hd.cells
  have HG := hid (Gen.of hd)
  clear hd
  go_wp2_with fail
  go_loopw [16] (fun iv wr => ∃ j : Nat, iv = .int .i64 (j : Int) ∧ Hid (j ≤ s1.W.length) ∧ Hid (Gen w1 wr F1 g s1 k q A1 c1 (app (s1.W.take j) s1.K) (app s1.W s1.K))) (fun iv _ => s1.W.length - (intOf iv).toNat)
  case atStart => exact ⟨0, rfl, hid (Nat.zero_le _), HG⟩
  case round =>
    obtain ⟨j, rfl, hj, hG⟩ := hrel
    clear HG x2
    rcases Nat.lt_or_ge j s1.W.length with hlt | hge
    · have HLT := hid hlt
      obtain ⟨b, rfl, hb, hR⟩ := hG.out.elem hlt
      have hx := hG.out.ok.W s1.W[j] (List.getElem_mem hlt)
      have htk : s1.W.take (j + 1) = s1.W.take j ++ [(s1.W[j].1, s1.W[j].2)] := List.take_succ_eq_append_getElem hlt
      have HKL : Hid (∀ i, (app (s1.W.take j) s1.K i).length = 16) := hid (app_len _ _ hG.out.ok.K fun x hx => (hG.out.ok.W x (List.mem_of_mem_take hx)).2)
      generalize s1.W[j].1 = i at *
      generalize s1.W[j].2 = l at *
      have HX := hid hx
      have HTK := hid htk
      have HR := hid hR
      obtain ⟨d, hd1, hd2⟩ := Try.undW2
      have HD := hid (And.intro hd1 hd2)
      have hel : (Value.int .i64 (i : Int) :: bs l).length = 17 := by rw [List.length_cons, bs_len, hx.2]
      have HIN : Hid ((Try.prog.info? 65).map (·.size) = some (Value.int .i64 (i : Int) :: bs l).length) := hid (by rw [hel]; exact Try.infoW1)
      have HT : Hid ((wr.alloc (.cells #[.int .i64 0, .int .u8 0, .int .u8 0, .int .u8 0, .int .u8 0, .int .u8 0, .int .u8 0, .int .u8 0, .int .u8 0, .int .u8 0, .int .u8 0, .int .u8 0, .int .u8 0, .int .u8 0, .int .u8 0, .int .u8 0, .int .u8 0] 65)).there wr.heap.size 0 (Value.int .i64 (i : Int) :: bs l).toArray.size) := hid (by show World.there _ _ 0 (Value.int .i64 (i : Int) :: bs l).length; rw [hel]; exact z17 wr)
      have HC : Hid ((Value.int .i64 (i : Int) :: bs l).toArray.all (·.oneCell') = true) := hid (all_oneCell_toArray (fun u hu => by rcases List.mem_cons.1 hu with rfl | hu; rfl; exact bs_one _ u hu))
      have j1 : (0 : Int) ≤ (j : Int) := by omega
      have j2 : (j : Int) < (s1.W.length : Int) := by omega
      have j3 : decide ((j : Int) < (s1.W.length : Int)) = true := by simpa using hlt
      have j4 : decide (j < s1.W.length) = true := by simpa using hlt
      have i1 : (0 : Int) ≤ (i : Int) := by omega
      have i2 : (i : Int) < (s1.n : Int) := by have := hx.1; omega
      have wj : wrap64 ((j : Int) + 1) = ((j + 1 : Nat) : Int) := by have := HWl.out; unfold wrap64; omega
      clear hx htk hR hd1 hd2 hel
      generalize hE : Value.int .i64 (i : Int) :: bs l = E at *
      as_aux_lemma =>
      go_wp2_with (first | (refine wpList_load_mid rfl 65 _ rfl b (j * 17) rfl E d HR.out HD.out.1 HD.out.2 HIN.out ?_) | (refine wpList_store_mid rfl 65 _ _ rfl _ _ E.toArray rfl rfl HT.out HIN.out HC.out ?_))
      have hV : Var wr ((wr.alloc (.cells #[.int .i64 0, .int .u8 0, .int .u8 0, .int .u8 0, .int .u8 0, .int .u8 0, .int .u8 0, .int .u8 0, .int .u8 0, .int .u8 0, .int .u8 0, .int .u8 0, .int .u8 0, .int .u8 0, .int .u8 0, .int .u8 0, .int .u8 0] 65)).setCells wr.heap.size 0 E) i l := by rw [← hE]; exact Var.of wr i l HX.out.2
      simp only [Act.put]
      generalize (wr.alloc (.cells #[.int .i64 0, .int .u8 0, .int .u8 0, .int .u8 0, .int .u8 0, .int .u8 0, .int .u8 0, .int .u8 0, .int .u8 0, .int .u8 0, .int .u8 0, .int .u8 0, .int .u8 0, .int .u8 0, .int .u8 0, .int .u8 0, .int .u8 0] 65)).setCells wr.heap.size 0 E = w2 at *
      have HG2 := hid (hG.out.bel hV.bel)
      have y0 := HG2.out.blk.cell 0
      simp at y0
      have y1 := hV.at_
      have y2 := hV.with_
      have HB : Hid ((Try.prog.info? 62).map (·.size) = some (bs l).length) := hid (by rw [bs_len, HX.out.2]; exact Try.infoB)
      have hv1 : wr.heap.size ≠ k := by have := hG.out.kept.lt; omega
      clear hG HR HT HC HIN hE hb HLT
      refine wp_region_held_drew (S := fun wx => wx.cell? ⟨g, 0, none⟩ = some (.slice (some ⟨k, 0, none⟩) s1.n s1.n) ∧ wx.cell? ⟨wr.heap.size, 0, none⟩ = some (.int .i64 (i : Int)) ∧ wx.rangeAt wr.heap.size 1 (bs l)) (by kernel_rfl) ⟨by simpa using y0, by simpa using y1, by simpa using y2⟩ (fun HS => ?_)
      have B3 : Hid (Below w2.heap.size w2 w2.drew) := hid ((Below.refl _ _).drew)
      generalize w2.drew = w3 at *
      refine wpAnyH_take (i := 0) (oi := ?oi0) (v := ?v0) ?hi0 (by kernel_rfl) (by kernel_rfl) (by kernel_rfl) ?hQ0 ?hy0 HS ?rest0
      case hi0 => simp only [List.getElem?_toArray, List.getElem?_cons_zero]; exact rfl
      case hQ0 => exact fun _ _ _ h => h
      case hy0 =>
        refine Or.inl ⟨by rfl, ?_⟩
        intro wS hSw
        go_simp
        try with_reducible rfl
      try simp only [Act.put, List.setIfInBounds_toArray, List.set_cons_zero, List.set_cons_succ]
      refine wpAnyH_take (i := 1) (oi := ?oi1) (v := ?v1) ?hi1 (by kernel_rfl) (by kernel_rfl) (by kernel_rfl) ?hQ1 ?hy1 HS ?rest1
      case hi1 => simp only [List.getElem?_toArray, List.getElem?_cons_succ, List.getElem?_cons_zero]; exact rfl
      case hQ1 => exact fun _ _ _ h => h
      case hy1 =>
        refine Or.inl ⟨by rfl, ?_⟩
        intro wS hSw
        go_simp
        try with_reducible rfl
      try simp only [Act.put, List.setIfInBounds_toArray, List.set_cons_zero, List.set_cons_succ]
      refine wpAnyH_take (i := 2) (oi := ?oi2) (v := ?v2) ?hi2 (by kernel_rfl) (by kernel_rfl) (by kernel_rfl) ?hQ2 ?hy2 HS ?rest2
      case hi2 => simp only [List.getElem?_toArray, List.getElem?_cons_succ, List.getElem?_cons_zero]; exact rfl
      case hQ2 => exact fun _ _ _ h => h
      case hy2 =>
        refine Or.inl ⟨by rfl, ?_⟩
        intro wS hSw
        go_simp
        try with_reducible rfl
      try simp only [Act.put, List.setIfInBounds_toArray, List.set_cons_zero, List.set_cons_succ]
      refine wpAnyH_take (i := 3) (oi := ?oi3) (v := ?v3) ?hi3 (by kernel_rfl) (by kernel_rfl) (by kernel_rfl) ?hQ3 ?hy3 HS ?rest3
      case hi3 => simp only [List.getElem?_toArray, List.getElem?_cons_succ, List.getElem?_cons_zero]; exact rfl
      case hQ3 => exact fun _ _ _ h => h
      case hy3 =>
        refine Or.inl ⟨by rfl, ?_⟩
        intro wS hSw
        obtain ⟨z0, z1, z2⟩ := hSw
        go_simp
        try with_reducible rfl
      try simp only [Act.put, List.setIfInBounds_toArray, List.set_cons_zero, List.set_cons_succ]
      refine wpAnyH_take (i := 4) (oi := ?oi4) (v := ?v4) ?hi4 (by kernel_rfl) (by kernel_rfl) (by kernel_rfl) ?hQ4 ?hy4 HS ?rest4
      case hi4 => simp only [List.getElem?_toArray, List.getElem?_cons_succ, List.getElem?_cons_zero]; exact rfl
      case hQ4 => exact fun _ _ _ h => h
      case hy4 =>
        refine Or.inl ⟨by rfl, ?_⟩
        intro wS hSw
        go_simp
        try with_reducible rfl
      try simp only [Act.put, List.setIfInBounds_toArray, List.set_cons_zero, List.set_cons_succ]
      refine wpAnyH_take (i := 5) (oi := ?oi5) (v := ?v5) ?hi5 (by kernel_rfl) (by kernel_rfl) (by kernel_rfl) ?hQ5 ?hy5 HS ?rest5
      case hi5 => simp only [List.getElem?_toArray, List.getElem?_cons_succ, List.getElem?_cons_zero]; exact rfl
      case hQ5 => exact fun _ _ _ h => h
      case hy5 =>
        refine Or.inl ⟨by rfl, ?_⟩
        intro wS hSw
        obtain ⟨z0, z1, z2⟩ := hSw
        go_simp
        try with_reducible rfl
      try simp only [Act.put, List.setIfInBounds_toArray, List.set_cons_zero, List.set_cons_succ]
      refine wpAnyH_take (i := 6) (oi := ?oi6) (v := ?v6) ?hi6 (by kernel_rfl) (by kernel_rfl) (by kernel_rfl) ?hQ6 ?hy6 HS ?rest6
      case hi6 => simp only [List.getElem?_toArray, List.getElem?_cons_succ, List.getElem?_cons_zero]; exact rfl
      case hQ6 => exact fun _ _ _ h => h
      case hy6 =>
        refine Or.inl ⟨by rfl, ?_⟩
        intro wS hSw
        go_simp
        try with_reducible rfl
      try simp only [Act.put, List.setIfInBounds_toArray, List.set_cons_zero, List.set_cons_succ]
      refine wpAnyH_take (i := 7) (oi := ?oi7) (v := ?v7) ?hi7 (by kernel_rfl) (by kernel_rfl) (by kernel_rfl) ?hQ7 ?hy7 HS ?rest7
      case hi7 => simp only [List.getElem?_toArray, List.getElem?_cons_succ, List.getElem?_cons_zero]; exact rfl
      case hQ7 => exact fun _ _ _ h => h
      case hy7 =>
        refine Or.inl ⟨by rfl, ?_⟩
        intro wS hSw
        refine Eq.trans (exec_load_mid 62 (.tmp 26) ?_ wr.heap.size 1 ?_ (bs l) _ hSw.2.2 Try.undB rfl HB.out) ?_
        · rfl
        · rfl
        · with_reducible rfl
      try simp only [Act.put, List.setIfInBounds_toArray, List.set_cons_zero, List.set_cons_succ]
      refine wpAnyH_take (i := 8) (oi := ?oi8) (v := ?v8) ?hi8 (by kernel_rfl) (by kernel_rfl) (by kernel_rfl) ?hQ8 ?hy8 HS ?rest8
      case hi8 => simp only [List.getElem?_toArray, List.getElem?_cons_succ, List.getElem?_cons_zero]; exact rfl
      case hQ8 => exact fun _ _ _ h => h
      case hy8 =>
        refine Or.inl ⟨by rfl, ?_⟩
        intro wS hSw
        go_simp
        try with_reducible rfl
      try simp only [Act.put, List.setIfInBounds_toArray, List.set_cons_zero, List.set_cons_succ]
      refine wpAnyH_ready (rs := [9]) (by kernel_rfl) (by simp) ?_
      refine AllReadyH.cons (o := ?o9) ?ho9 (fun K hK => ?step9) AllReadyH.nil
      case ho9 => simp only [List.getElem?_toArray, List.getElem?_cons_succ, List.getElem?_cons_zero]; exact rfl
      rw [if_pos (by rfl)]
      refine wp_store_mid 62 _ _ rfl k (i * 16) (bs l).toArray rfl rfl (by show World.there _ _ _ (bs l).length; rw [bs_len, HX.out.2]; exact there_part (HG2.out.bel B3.out).kept.there HX.out.1) HB.out (all_oneCell_toArray (bs_one _)) ?_
      refine hK.out _ _ ⟨by have h0 := ((HG2.out.bel B3.out).setK HKL.out HX.out.1 HX.out.2).blk.cell 0; simpa using h0, (World.cell?_of_block ((grown_setCells k (bs l) (i * 16) w3).block wr.heap.size (by have := hV.lt; have := B3.out.size; omega) (by simpa using hv1))).trans HS.2.1, World.rangeAt_setCells_apart HS.2.2 _ _ _ (.inl hv1)⟩ (fun HS => ?_)
      clear hK K
      try simp only [Act.put]
      refine wpAnyH_done (by kernel_rfl) ?_ _
      have hG4 : Gen w1 (w3.setCells k (i * 16) (bs l)) F1 g s1 k q (some ⟨b, 0, none⟩) c1 (app (s1.W.take (j + 1)) s1.K) (app s1.W s1.K) := by
        rw [HTK.out, app_snoc]
        exact (HG2.out.bel B3.out).setK HKL.out HX.out.1 HX.out.2
      clear HS y0 y1 y2 hV HG2
      generalize w3.setCells k (i * 16) (bs l) = w4 at *
      have HG4 := hid hG4
      clear hG4
      go_wp2
      exact ⟨⟨j + 1, congrArg (Value.int .i64) wj, hid hlt, HG4⟩, by rw [wj]; simp [intOf]; omega⟩
    · have HJ : Hid (j = s1.W.length) := hid (by have := hj.out; omega)
      have j3 : decide ((j : Int) < (s1.W.length : Int)) = false := by simp; omega
      have j4 : decide (j < s1.W.length) = false := by simp; omega
      obtain ⟨hblk, f2⟩ := And.intro hG.out.blk (hG.out.blk.frozen 2)
      have y2 := hblk.cell 2
      simp at y2
      have HBL := hid hblk
      have HN : Hid (Left w1 (wr.setCell ⟨g, 2, none⟩ (.slice none 0 0)) F1 g s1.sync) := hid (by
        have hG' := hG.out
        rw [HJ.out, List.take_length] at hG'
        exact hG'.close (fun _ _ => rfl) hG'.ok.S s1.lim hG'.ok.lim (grown_setCell wr g 2 _) (HBL.out.store 2 _))
      clear hG hblk hj hge
      go_wp2
      go_ret
      exact ⟨rfl, Left.after HK1.out HF1.out HN.out⟩
end Go.Proofs.Ytdgcoipflenlgaa
