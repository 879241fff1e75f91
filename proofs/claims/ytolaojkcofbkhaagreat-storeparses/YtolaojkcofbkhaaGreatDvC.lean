/- What Sync of a device does: all writes are kept, or an error. What Crash of a device leaves: of the writes that wait those that are kept; no limit. The document's text of a block: bytes and noughts behind them; what Overwrite answers to a wrong call. Words on devices for the walks of laws. -/
import Derived.Test.YtolaojkcofbkhaaGreatDvW
namespace Go.Proofs.YtolaojkcofbkhaaGreat
open Go.RowKit

/-- In the midst of a call: kept and seen are laid anew, the rest is as it was. -/
structure Gen (w0 w : World) (F : Nat → Prop) (g : Nat) (s : St) (k q : Nat) (A : Option Addr) (c : Nat) (K S : Bl) : Prop where
  blk : Blk w g 108 #[.slice (some ⟨k, 0, none⟩) s.n s.n, .slice (some ⟨q, 0, none⟩) s.n s.n, .slice A s.W.length c, .bool s.lim.isSome, .int .i64 ((s.lim.getD 0 : Nat) : Int)]
  kept : Rows w k s.n K
  seen : Rows w q s.n S
  wait : w.ownsRow 0 143 17 (.slice A s.W.length c) s.W.length (wcs s.W)
  kp : Kp F w0 w
  gk : g ≠ k
  gq : g ≠ q
  kq : k ≠ q
  Ag : ∀ b, A.map (·.block) = some b → b ≠ g ∧ b ≠ k ∧ b ≠ q ∧ F b
  Fg : F g
  Fk : F k
  Fq : F q
  F : ∀ j, F j → j < w0.heap.size
  ok : s.ok
section
variable {w0 w : World} {F : Nat → Prop} {g : Nat} {s : St} {k q c : Nat} {A : Option Addr} {K S : Bl}
theorem Gen.of (h : DevAt w F g s k q A c) : Gen w w F g s k q A c s.K (app s.W s.K) :=
  ⟨h.blk, h.kept, h.seen, h.wait, Kp.refl _ _, h.gk, h.gq, h.kq, h.Ag, h.Fg, h.Fk, h.Fq, h.F, h.ok⟩
theorem Gen.lt (h : Gen w0 w F g s k q A c K S) (j : Nat) (hj : F j) : j < w.heap.size := Nat.lt_of_lt_of_le (h.F j hj) h.kp.size
theorem Gen.bel (h : Gen w0 w F g s k q A c K S) {w' : World} (hb : Below w.heap.size w w') : Gen w0 w' F g s k q A c K S :=
  ⟨h.blk.keep (hb.block g h.blk.lt), h.kept.keep hb.size (hb.block k h.kept.lt), h.seen.keep hb.size (hb.block q h.seen.lt), own_keep h.wait fun b hA => hb.block b (own_lt h.wait b hA), h.kp.trans (Kp.ofBelow hb), h.gk, h.gq, h.kq, h.Ag, h.Fg, h.Fk, h.Fq, h.F, h.ok⟩
theorem Gen.setK (h : Gen w0 w F g s k q A c K S) (hK : ∀ i, (K i).length = 16) {i : Nat} (hi : i < s.n) {b : List UInt8} (hb : b.length = 16) : Gen w0 (w.setCells k (i * 16) (bs b)) F g s k q A c (upd K i b) S := by
  have hg := grown_setCells k (bs b) (i * 16) w
  exact ⟨h.blk.keep (hg.block g (h.lt g h.Fg) (by simpa using h.gk)), h.kept.put hK hi hb, h.seen.other (Ne.symm h.kq) _ _, own_keep h.wait (fun b hb => hg.block b (own_lt h.wait b hb) (by simpa using (h.Ag b hb).2.1)), h.kp.trans (Kp.setCells w k _ _ h.Fk), h.gk, h.gq, h.kq, h.Ag, h.Fg, h.Fk, h.Fq, h.F, h.ok⟩
theorem Gen.setS (h : Gen w0 w F g s k q A c K S) (hS : ∀ i, (S i).length = 16) {i : Nat} (hi : i < s.n) {b : List UInt8} (hb : b.length = 16) : Gen w0 (w.setCells q (i * 16) (bs b)) F g s k q A c K (upd S i b) := by
  have hg := grown_setCells q (bs b) (i * 16) w
  exact ⟨h.blk.keep (hg.block g (h.lt g h.Fg) (by simpa using h.gq)), h.kept.other h.kq _ _, h.seen.put hS hi hb, own_keep h.wait (fun b hb => hg.block b (own_lt h.wait b hb) (by simpa using (h.Ag b hb).2.2.1)), h.kp.trans (Kp.setCells w q _ _ h.Fq), h.gk, h.gq, h.kq, h.Ag, h.Fg, h.Fk, h.Fq, h.F, h.ok⟩
theorem Gen.close (h : Gen w0 w F g s k q A c K S) (hS : ∀ i, i < s.n → K i = S i) (hK : ∀ i, (K i).length = 16) (l : Option Nat) (hl : ∀ d, l = some d → d ≤ 9223372036854775807) {w' : World} (hw : w.grownBy w' (some g))
    (hb : Blk w' g 108 #[.slice (some ⟨k, 0, none⟩) s.n s.n, .slice (some ⟨q, 0, none⟩) s.n s.n, .slice none 0 0, .bool l.isSome, .int .i64 ((l.getD 0 : Nat) : Int)]) : Left w0 w' F g { n := s.n, K := K, W := [], lim := l } :=
  ⟨F, ⟨k, q, none, 0, hb, h.kept.keep hw.size (hw.block k h.kept.lt (by simpa using Ne.symm h.gk)), (h.seen.keep hw.size (hw.block q h.seen.lt (by simpa using Ne.symm h.gq))).same fun i hi => hS i hi,
    ⟨rfl, .inl ⟨rfl, rfl⟩⟩, h.gk, h.gq, h.kq, fun b hb => (by cases hb), h.Fg, h.Fk, h.Fq, fun j hj => Nat.lt_of_lt_of_le (h.lt j hj) hw.size, ⟨h.ok.n1, h.ok.n2, hK, fun x hx => (by cases hx), hl⟩⟩,
   h.kp.trans (Kp.grown hw fun j hj => by injection hj with hj; subst hj; exact .inl h.Fg), fun j hj => .inl hj⟩
theorem Gen.elem (h : Gen w0 w F g s k q A c K S) {j : Nat} (hj : j < s.W.length) : ∃ b, A = some ⟨b, 0, none⟩ ∧ b < w.heap.size ∧ w.rangeAt b (j * 17) (.int .i64 (s.W[j].1 : Int) :: bs s.W[j].2) := by
  obtain ⟨b, hA, hb, hr⟩ := own_range h.wait (by omega)
  refine ⟨b, hA, hb, fun t u hu => ?_⟩
  have := hr (j * 17 + t) u (wcs_at s.W (fun x hx => (h.ok.W x hx).2) hj t u hu)
  rwa [Nat.zero_add] at this
end
theorem z17 (w : World) : (w.alloc (.cells #[.int .i64 0, .int .u8 0, .int .u8 0, .int .u8 0, .int .u8 0, .int .u8 0, .int .u8 0, .int .u8 0, .int .u8 0, .int .u8 0, .int .u8 0, .int .u8 0, .int .u8 0, .int .u8 0, .int .u8 0, .int .u8 0, .int .u8 0] 143)).there w.heap.size 0 17 := by
  have hB := Blk.new w 143 #[.int .i64 0, .int .u8 0, .int .u8 0, .int .u8 0, .int .u8 0, .int .u8 0, .int .u8 0, .int .u8 0, .int .u8 0, .int .u8 0, .int .u8 0, .int .u8 0, .int .u8 0, .int .u8 0, .int .u8 0, .int .u8 0, .int .u8 0]
  refine fun j hj => ⟨?_, hB.frozen _⟩
  rw [hB.cell, Nat.zero_add, Array.getElem?_eq_getElem (by simpa using hj)]
  rfl
theorem Tryz.undW2 : ∃ d, Tryz.prog.underlying 143 = some d ∧ d.isRow = true := by
  have := Tryz.undW
  cases h : Tryz.prog.underlying 143 with
  | none => rw [h] at this; cases this
  | some d => rw [h] at this; exact ⟨d, rfl, by simpa using this⟩
/-- The variable of a round: a write's cells in a block of their own. -/
structure Var (w w1 : World) (i : Nat) (b : List UInt8) : Prop where
  bel : Below w.heap.size w w1
  at_ : w1.cell? ⟨w.heap.size, 0, none⟩ = some (.int .i64 (i : Int))
  with_ : w1.rangeAt w.heap.size 1 (bs b)
  lt : w.heap.size < w1.heap.size
theorem Var.of (w : World) (i : Nat) (b : List UInt8) (hb : b.length = 16) : Var w ((w.alloc (.cells #[.int .i64 0, .int .u8 0, .int .u8 0, .int .u8 0, .int .u8 0, .int .u8 0, .int .u8 0, .int .u8 0, .int .u8 0, .int .u8 0, .int .u8 0, .int .u8 0, .int .u8 0, .int .u8 0, .int .u8 0, .int .u8 0, .int .u8 0] 143)).setCells w.heap.size 0 (.int .i64 (i : Int) :: bs b)) i b := by
  have hr : ((w.alloc (.cells #[.int .i64 0, .int .u8 0, .int .u8 0, .int .u8 0, .int .u8 0, .int .u8 0, .int .u8 0, .int .u8 0, .int .u8 0, .int .u8 0, .int .u8 0, .int .u8 0, .int .u8 0, .int .u8 0, .int .u8 0, .int .u8 0, .int .u8 0] 143)).setCells w.heap.size 0 (.int .i64 (i : Int) :: bs b)).rangeAt w.heap.size 0 (.int .i64 (i : Int) :: bs b) := World.rangeAt_setCells_same _ _ _ _ (by simp only [List.length_cons, bs_len, hb]; exact z17 w)
  have hg := grown_setCells w.heap.size (.int .i64 (i : Int) :: bs b) 0 (w.alloc (.cells #[.int .i64 0, .int .u8 0, .int .u8 0, .int .u8 0, .int .u8 0, .int .u8 0, .int .u8 0, .int .u8 0, .int .u8 0, .int .u8 0, .int .u8 0, .int .u8 0, .int .u8 0, .int .u8 0, .int .u8 0, .int .u8 0, .int .u8 0] 143))
  refine ⟨((Below.refl _ _).alloc (Nat.le_refl _) _).grown hg (by simp) (fun k hk => by injection hk with hk; omega), hr 0 _ rfl, fun j v hv => ?_, Nat.lt_of_lt_of_le (by simp) hg.size⟩
  have := hr (j + 1) v (by simpa using hv)
  rwa [Nat.zero_add, Nat.add_comm j 1] at this

set_option maxRecDepth 100000 in
theorem sync_nil (w : World) :
    Calls Tryz.prog 129 #[.pointer none] w fun e w' => e = .returned (.int .i64 1) ∧ w = w' := by
  go_enter Tryz.func129, Tryz.ntmps129
  go_wp2_with fail
  refine (count_nil w).mono ?_
  rintro e w' ⟨rfl, rfl⟩
  go_wp2
  go_ret
  exact ⟨rfl, rfl⟩
set_option maxRecDepth 100000 in
theorem sync_off (w : World) (F : Nat → Prop) (g : Nat) (s : St) (h : Dev w F g s) (ho : s.lim = some 0) :
    Calls Tryz.prog 129 #[.pointer (some ⟨g, 0, none⟩)] w fun e w' => e = .returned (.int .i64 40) ∧ w = w' := by
  have hc := count_off w F g s h ho
  clear h
  go_enter Tryz.func129, Tryz.ntmps129
  go_wp2_with fail
  refine hc.mono ?_
  rintro e w' ⟨rfl, rfl⟩
  go_wp2
  go_ret
  exact ⟨rfl, rfl⟩

set_option maxRecDepth 100000 in
set_option maxHeartbeats 4000000 in
theorem sync_c (w : World) (F : Nat → Prop) (g : Nat) (s : St) (h : Dev w F g s) (ho : s.lim ≠ some 0) (hW : s.W.length ≤ 1000000) :
    Calls Tryz.prog 129 #[.pointer (some ⟨g, 0, none⟩)] w fun e w' => e = .returned (.int .i64 0) ∧ Left w w' F g s.sync.dec := by
  have hc := count_on w F g s h ho
  have HWl : Hid (s.dec.W.length ≤ 1000000) := hid hW
  have HE : Hid (s.sync.dec = s.dec.sync) := hid rfl
  rw [HE.out]
  generalize s.dec = s1 at *
  clear h ho hW HE
  go_enter Tryz.func129, Tryz.ntmps129
  go_wp2_with fail
  refine hc.mono ?_
  rintro e w1 ⟨rfl, F1, hd1, hk1, hF1⟩
  have HK1 := hid hk1
  have HF1 := hid hF1
  clear hc hk1 hF1
  obtain ⟨k, q, A1, c1, hd⟩ := hd1
  obtain ⟨-, -, x2, -⟩ := hd.cells
  have HG := hid (Gen.of hd)
  clear hd
  go_wp2_with fail
  go_loopw [16] (fun iv wr => ∃ j : Nat, iv = .int .i64 (j : Int) ∧ Hid (j ≤ s1.W.length) ∧ Hid (Gen w1 wr F1 g s1 k q A1 c1 (app (s1.W.take j) s1.K) (app s1.W s1.K))) (fun iv _ => s1.W.length - (intOf iv).toNat)
  case atStart => exact ⟨0, rfl, hid (Nat.zero_le _), HG⟩
  case round =>
    obtain ⟨j, rfl, hj, hG⟩ := hrel
    clear HG x2
    rcases Nat.lt_or_ge j s1.W.length with hlt | hge
    · have HLT := hid hlt
      obtain ⟨b, rfl, hb, hR⟩ := hG.out.elem hlt
      have hx := hG.out.ok.W s1.W[j] (List.getElem_mem hlt)
      have htk : s1.W.take (j + 1) = s1.W.take j ++ [(s1.W[j].1, s1.W[j].2)] := List.take_succ_eq_append_getElem hlt
      have HKL : Hid (∀ i, (app (s1.W.take j) s1.K i).length = 16) := hid (app_len _ _ hG.out.ok.K fun x hx => (hG.out.ok.W x (List.mem_of_mem_take hx)).2)
      generalize s1.W[j].1 = i at *
      generalize s1.W[j].2 = l at *
      have HX := hid hx
      have HTK := hid htk
      have HR := hid hR
      obtain ⟨d, hd1, hd2⟩ := Tryz.undW2
      have HD := hid (And.intro hd1 hd2)
      have hel : (Value.int .i64 (i : Int) :: bs l).length = 17 := by rw [List.length_cons, bs_len, hx.2]
      have HIN : Hid ((Tryz.prog.info? 143).map (·.size) = some (Value.int .i64 (i : Int) :: bs l).length) := hid (by rw [hel]; exact Tryz.infoW1)
      have HT : Hid ((wr.alloc (.cells #[.int .i64 0, .int .u8 0, .int .u8 0, .int .u8 0, .int .u8 0, .int .u8 0, .int .u8 0, .int .u8 0, .int .u8 0, .int .u8 0, .int .u8 0, .int .u8 0, .int .u8 0, .int .u8 0, .int .u8 0, .int .u8 0, .int .u8 0] 143)).there wr.heap.size 0 (Value.int .i64 (i : Int) :: bs l).toArray.size) := hid (by show World.there _ _ 0 (Value.int .i64 (i : Int) :: bs l).length; rw [hel]; exact z17 wr)
      have HC : Hid ((Value.int .i64 (i : Int) :: bs l).toArray.all (·.oneCell') = true) := hid (all_oneCell_toArray (fun u hu => by rcases List.mem_cons.1 hu with rfl | hu; rfl; exact bs_one _ u hu))
      have j1 : (0 : Int) ≤ (j : Int) := by omega
      have j2 : (j : Int) < (s1.W.length : Int) := by omega
      have j3 : decide ((j : Int) < (s1.W.length : Int)) = true := by simpa using hlt
      have j4 : decide (j < s1.W.length) = true := by simpa using hlt
      have i1 : (0 : Int) ≤ (i : Int) := by omega
      have i2 : (i : Int) < (s1.n : Int) := by have := hx.1; omega
      have wj : wrap64 ((j : Int) + 1) = ((j + 1 : Nat) : Int) := by have := HWl.out; unfold wrap64; omega
      clear hx htk hR hd1 hd2 hel
      generalize hE : Value.int .i64 (i : Int) :: bs l = E at *
      as_aux_lemma =>
      go_wp2_with (first | (refine wpList_load_mid rfl 143 _ rfl b (j * 17) rfl E d HR.out HD.out.1 HD.out.2 HIN.out ?_) | (refine wpList_store_mid rfl 143 _ _ rfl _ _ E.toArray rfl rfl HT.out HIN.out HC.out ?_))
      have hV : Var wr ((wr.alloc (.cells #[.int .i64 0, .int .u8 0, .int .u8 0, .int .u8 0, .int .u8 0, .int .u8 0, .int .u8 0, .int .u8 0, .int .u8 0, .int .u8 0, .int .u8 0, .int .u8 0, .int .u8 0, .int .u8 0, .int .u8 0, .int .u8 0, .int .u8 0] 143)).setCells wr.heap.size 0 E) i l := by rw [← hE]; exact Var.of wr i l HX.out.2
      simp only [Act.put]
      generalize (wr.alloc (.cells #[.int .i64 0, .int .u8 0, .int .u8 0, .int .u8 0, .int .u8 0, .int .u8 0, .int .u8 0, .int .u8 0, .int .u8 0, .int .u8 0, .int .u8 0, .int .u8 0, .int .u8 0, .int .u8 0, .int .u8 0, .int .u8 0, .int .u8 0] 143)).setCells wr.heap.size 0 E = w2 at *
      have HG2 := hid (hG.out.bel hV.bel)
      have y0 := HG2.out.blk.cell 0
      simp at y0
      have y1 := hV.at_
      have y2 := hV.with_
      have HB : Hid ((Tryz.prog.info? 139).map (·.size) = some (bs l).length) := hid (by rw [bs_len, HX.out.2]; exact Tryz.infoB)
      have hv1 : wr.heap.size ≠ k := by have := hG.out.kept.lt; omega
      clear hG HR HT HC HIN hE hb HLT
      refine wp_region_held_drew (S := fun wx => wx.cell? ⟨g, 0, none⟩ = some (.slice (some ⟨k, 0, none⟩) s1.n s1.n) ∧ wx.cell? ⟨wr.heap.size, 0, none⟩ = some (.int .i64 (i : Int)) ∧ wx.rangeAt wr.heap.size 1 (bs l)) (by kernel_rfl) ⟨by simpa using y0, by simpa using y1, by simpa using y2⟩ (fun HS => ?_)
      have B3 : Hid (Below w2.heap.size w2 w2.drew) := hid ((Below.refl _ _).drew)
      generalize w2.drew = w3 at *
      refine wpAnyH_take (i := 0) (oi := ?oi0) (v := ?v0) ?hi0 (by kernel_rfl) (by kernel_rfl) (by kernel_rfl) ?hQ0 ?hy0 HS ?rest0
      case hi0 => simp only [List.getElem?_toArray, List.getElem?_cons_zero]; exact rfl
      case hQ0 => exact fun _ _ _ h => h
      case hy0 =>
        refine Or.inl ⟨by rfl, ?_⟩
        intro wS hSw
        go_simp
        try with_reducible rfl
      try simp only [Act.put, List.setIfInBounds_toArray, List.set_cons_zero, List.set_cons_succ]
      refine wpAnyH_take (i := 1) (oi := ?oi1) (v := ?v1) ?hi1 (by kernel_rfl) (by kernel_rfl) (by kernel_rfl) ?hQ1 ?hy1 HS ?rest1
      case hi1 => simp only [List.getElem?_toArray, List.getElem?_cons_succ, List.getElem?_cons_zero]; exact rfl
      case hQ1 => exact fun _ _ _ h => h
      case hy1 =>
        refine Or.inl ⟨by rfl, ?_⟩
        intro wS hSw
        go_simp
        try with_reducible rfl
      try simp only [Act.put, List.setIfInBounds_toArray, List.set_cons_zero, List.set_cons_succ]
      refine wpAnyH_take (i := 2) (oi := ?oi2) (v := ?v2) ?hi2 (by kernel_rfl) (by kernel_rfl) (by kernel_rfl) ?hQ2 ?hy2 HS ?rest2
      case hi2 => simp only [List.getElem?_toArray, List.getElem?_cons_succ, List.getElem?_cons_zero]; exact rfl
      case hQ2 => exact fun _ _ _ h => h
      case hy2 =>
        refine Or.inl ⟨by rfl, ?_⟩
        intro wS hSw
        go_simp
        try with_reducible rfl
      try simp only [Act.put, List.setIfInBounds_toArray, List.set_cons_zero, List.set_cons_succ]
      refine wpAnyH_take (i := 3) (oi := ?oi3) (v := ?v3) ?hi3 (by kernel_rfl) (by kernel_rfl) (by kernel_rfl) ?hQ3 ?hy3 HS ?rest3
      case hi3 => simp only [List.getElem?_toArray, List.getElem?_cons_succ, List.getElem?_cons_zero]; exact rfl
      case hQ3 => exact fun _ _ _ h => h
      case hy3 =>
        refine Or.inl ⟨by rfl, ?_⟩
        intro wS hSw
        obtain ⟨z0, z1, z2⟩ := hSw
        go_simp
        try with_reducible rfl
      try simp only [Act.put, List.setIfInBounds_toArray, List.set_cons_zero, List.set_cons_succ]
      refine wpAnyH_take (i := 4) (oi := ?oi4) (v := ?v4) ?hi4 (by kernel_rfl) (by kernel_rfl) (by kernel_rfl) ?hQ4 ?hy4 HS ?rest4
      case hi4 => simp only [List.getElem?_toArray, List.getElem?_cons_succ, List.getElem?_cons_zero]; exact rfl
      case hQ4 => exact fun _ _ _ h => h
      case hy4 =>
        refine Or.inl ⟨by rfl, ?_⟩
        intro wS hSw
        go_simp
        try with_reducible rfl
      try simp only [Act.put, List.setIfInBounds_toArray, List.set_cons_zero, List.set_cons_succ]
      refine wpAnyH_take (i := 5) (oi := ?oi5) (v := ?v5) ?hi5 (by kernel_rfl) (by kernel_rfl) (by kernel_rfl) ?hQ5 ?hy5 HS ?rest5
      case hi5 => simp only [List.getElem?_toArray, List.getElem?_cons_succ, List.getElem?_cons_zero]; exact rfl
      case hQ5 => exact fun _ _ _ h => h
      case hy5 =>
        refine Or.inl ⟨by rfl, ?_⟩
        intro wS hSw
        obtain ⟨z0, z1, z2⟩ := hSw
        go_simp
        try with_reducible rfl
      try simp only [Act.put, List.setIfInBounds_toArray, List.set_cons_zero, List.set_cons_succ]
      refine wpAnyH_take (i := 6) (oi := ?oi6) (v := ?v6) ?hi6 (by kernel_rfl) (by kernel_rfl) (by kernel_rfl) ?hQ6 ?hy6 HS ?rest6
      case hi6 => simp only [List.getElem?_toArray, List.getElem?_cons_succ, List.getElem?_cons_zero]; exact rfl
      case hQ6 => exact fun _ _ _ h => h
      case hy6 =>
        refine Or.inl ⟨by rfl, ?_⟩
        intro wS hSw
        go_simp
        try with_reducible rfl
      try simp only [Act.put, List.setIfInBounds_toArray, List.set_cons_zero, List.set_cons_succ]
      refine wpAnyH_take (i := 7) (oi := ?oi7) (v := ?v7) ?hi7 (by kernel_rfl) (by kernel_rfl) (by kernel_rfl) ?hQ7 ?hy7 HS ?rest7
      case hi7 => simp only [List.getElem?_toArray, List.getElem?_cons_succ, List.getElem?_cons_zero]; exact rfl
      case hQ7 => exact fun _ _ _ h => h
      case hy7 =>
        refine Or.inl ⟨by rfl, ?_⟩
        intro wS hSw
        refine Eq.trans (exec_load_mid 139 (.tmp 26) ?_ wr.heap.size 1 ?_ (bs l) _ hSw.2.2 Tryz.undB rfl HB.out) ?_
        · rfl
        · rfl
        · with_reducible rfl
      try simp only [Act.put, List.setIfInBounds_toArray, List.set_cons_zero, List.set_cons_succ]
      refine wpAnyH_take (i := 8) (oi := ?oi8) (v := ?v8) ?hi8 (by kernel_rfl) (by kernel_rfl) (by kernel_rfl) ?hQ8 ?hy8 HS ?rest8
      case hi8 => simp only [List.getElem?_toArray, List.getElem?_cons_succ, List.getElem?_cons_zero]; exact rfl
      case hQ8 => exact fun _ _ _ h => h
      case hy8 =>
        refine Or.inl ⟨by rfl, ?_⟩
        intro wS hSw
        go_simp
        try with_reducible rfl
      try simp only [Act.put, List.setIfInBounds_toArray, List.set_cons_zero, List.set_cons_succ]
      refine wpAnyH_ready (rs := [9]) (by kernel_rfl) (by simp) ?_
      refine AllReadyH.cons (o := ?o9) ?ho9 (fun K hK => ?step9) AllReadyH.nil
      case ho9 => simp only [List.getElem?_toArray, List.getElem?_cons_succ, List.getElem?_cons_zero]; exact rfl
      rw [if_pos (by rfl)]
      refine wp_store_mid 139 _ _ rfl k (i * 16) (bs l).toArray rfl rfl (by show World.there _ _ _ (bs l).length; rw [bs_len, HX.out.2]; exact there_part (HG2.out.bel B3.out).kept.there HX.out.1) HB.out (all_oneCell_toArray (bs_one _)) ?_
      refine hK.out _ _ ⟨by have h0 := ((HG2.out.bel B3.out).setK HKL.out HX.out.1 HX.out.2).blk.cell 0; simpa using h0, (World.cell?_of_block ((grown_setCells k (bs l) (i * 16) w3).block wr.heap.size (by have := hV.lt; have := B3.out.size; omega) (by simpa using hv1))).trans HS.2.1, World.rangeAt_setCells_apart HS.2.2 _ _ _ (.inl hv1)⟩ (fun HS => ?_)
      clear hK K
      try simp only [Act.put]
      refine wpAnyH_done (by kernel_rfl) ?_ _
      have hG4 : Gen w1 (w3.setCells k (i * 16) (bs l)) F1 g s1 k q (some ⟨b, 0, none⟩) c1 (app (s1.W.take (j + 1)) s1.K) (app s1.W s1.K) := by
        rw [HTK.out, app_snoc]
        exact (HG2.out.bel B3.out).setK HKL.out HX.out.1 HX.out.2
      clear HS y0 y1 y2 hV HG2
      generalize w3.setCells k (i * 16) (bs l) = w4 at *
      have HG4 := hid hG4
      clear hG4
      go_wp2
      exact ⟨⟨j + 1, congrArg (Value.int .i64) wj, hid hlt, HG4⟩, by rw [wj]; simp [intOf]; omega⟩
    · have HJ : Hid (j = s1.W.length) := hid (by have := hj.out; omega)
      have j3 : decide ((j : Int) < (s1.W.length : Int)) = false := by simp; omega
      have j4 : decide (j < s1.W.length) = false := by simp; omega
      obtain ⟨hblk, f2⟩ := And.intro hG.out.blk (hG.out.blk.frozen 2)
      have y2 := hblk.cell 2
      simp at y2
      have HBL := hid hblk
      have HN : Hid (Left w1 (wr.setCell ⟨g, 2, none⟩ (.slice none 0 0)) F1 g s1.sync) := hid (by
        have hG' := hG.out
        rw [HJ.out, List.take_length] at hG'
        exact hG'.close (fun _ _ => rfl) hG'.ok.S s1.lim hG'.ok.lim (grown_setCell wr g 2 _) (HBL.out.store 2 _))
      clear hG hblk hj hge
      go_wp2
      go_ret
      exact ⟨rfl, Left.after HK1.out HF1.out HN.out⟩
end Go.Proofs.YtolaojkcofbkhaaGreat
/- What Crash of a device leaves: of the writes that wait those that are kept; no limit. -/
namespace Go.Proofs.YtolaojkcofbkhaaGreat
open Go.RowKit

def mix (V : Wr) (K S : Bl) : Bl := fun i => if V.any (fun x => x.1 == i) then K i else S i
theorem mix_snoc (V : Wr) (K S : Bl) (i : Nat) (b : List UInt8) : mix (V ++ [(i, b)]) K S = upd (mix V K S) i (K i) := by
  funext j
  unfold mix upd
  by_cases h : j = i
  · subst h; simp
  · have : (i == j) = false := by simpa using fun e => h e.symm
    rw [List.any_append, if_neg h]
    show (if (V.any _ || ((i == j) || false)) = true then _ else _) = _
    rw [this, Bool.or_false, Bool.or_false]
theorem mix_nil (K S : Bl) : mix [] K S = S := by funext j; simp [mix]
theorem mix_len (V : Wr) {K S : Bl} (hK : ∀ i, (K i).length = 16) (hS : ∀ i, (S i).length = 16) : ∀ i, (mix V K S i).length = 16 := by
  intro i
  unfold mix
  split
  · exact hK i
  · exact hS i
theorem mix_end (W : Wr) (K : Bl) (keep : List Bool) (i : Nat) : app (ke W keep) K i = mix W (app (ke W keep) K) (app W K) i := by
  unfold mix
  split
  · rfl
  · rename_i h
    have hn : ∀ x ∈ W, x.1 ≠ i := fun x hx e => h (List.any_eq_true.2 ⟨x, hx, by simpa using e⟩)
    rw [app_out W K i hn, app_out _ K i fun x hx => hn x (ke_mem _ _ x hx)]

set_option maxRecDepth 100000 in
theorem crash_nil (w : World) (v : Value) :
    Calls Tryz.prog 27 #[.pointer none, v] w fun e w' => e = .returned (.tuple #[]) ∧ w = w' := by
  go_enter Tryz.func27, Tryz.ntmps27
  go_wp2
  refine bodyPost_ret (results_none rfl _ _ _) rfl ?_
  exact ⟨rfl, rfl⟩

theorem Lst.kp {w w' : World} {F : Nat → Prop} {A : Option Addr} {n : Nat} {xs : List Value} (h : Lst w 0 w.heap.size A n xs) (hk : Kp F w w') (hA : 0 < n → ∀ u, A.map (·.block) = some u → ¬ F u) : Lst w' 0 w'.heap.size A n xs :=
  ⟨h.1, fun hn => by
    obtain ⟨b, off, rfl, h1, h2, hc⟩ := h.2 hn
    have e := hk.block b h2 (hA hn b rfl)
    exact ⟨b, off, rfl, h1, Nat.lt_of_lt_of_le h2 hk.size, fun j u hu => (World.cell?_of_block (a := ⟨b, off + j, none⟩) e).trans (hc j u hu)⟩⟩

set_option maxRecDepth 100000 in
set_option maxHeartbeats 8000000 in
theorem crash_c (w1 : World) (F1 : Nat → Prop) (g : Nat) (s1 : St) (h : Dev w1 F1 g s1) (KA : Option Addr) (kn kc : Nat) (keep : List Bool) (hk : Lst w1 0 w1.heap.size KA kn (keep.map .bool)) (hA : 0 < kn → ∀ u, KA.map (·.block) = some u → ¬ F1 u) (hW : s1.W.length ≤ 1000000) :
    Calls Tryz.prog 27 #[.pointer (some ⟨g, 0, none⟩), .slice KA kn kc] w1 fun e w' => e = .returned (.tuple #[]) ∧ Left w1 w' F1 g (s1.crash keep) := by
  have HWl := hid hW
  have HKP := hid (fun wx (hx : Kp F1 w1 wx) => hk.kp hx hA)
  have hlk : keep.length = kn := by have := hk.len; simpa using this
  have HLK := hid hlk
  obtain ⟨k, q, A1, c1, hd⟩ := h
  obtain ⟨-, -, x2, -⟩ := hd.cells
  have HG := hid (Gen.of hd)
  clear hd hk hA hW hlk
  go_enter Tryz.func27, Tryz.ntmps27
  go_wp2_with fail
  go_loopw [15] (fun iv wr => ∃ j : Nat, iv = .int .i64 (j : Int) ∧ Hid (j ≤ s1.W.length) ∧ Hid (Gen w1 wr F1 g s1 k q A1 c1 (app (ke (s1.W.take j) keep) s1.K) (app s1.W s1.K))) (fun iv _ => s1.W.length - (intOf iv).toNat)
  case atStart => exact ⟨0, rfl, hid (Nat.zero_le _), HG⟩
  case round =>
    obtain ⟨j, rfl, hj, hG⟩ := hrel
    clear HG x2
    rcases Nat.lt_or_ge j s1.W.length with hlt | hge
    · have hlj : (s1.W.take j).length = j := by simp; omega
      have HKL : Hid (∀ i, (app (ke (s1.W.take j) keep) s1.K i).length = 16) := hid (app_len _ _ hG.out.ok.K fun x hx => (hG.out.ok.W x (List.mem_of_mem_take (ke_mem _ _ x hx))).2)
      obtain ⟨b, rfl, hb, hR⟩ := hG.out.elem hlt
      have hx := hG.out.ok.W s1.W[j] (List.getElem_mem hlt)
      have htk : s1.W.take (j + 1) = s1.W.take j ++ [(s1.W[j].1, s1.W[j].2)] := List.take_succ_eq_append_getElem hlt
      generalize s1.W[j].1 = i at *
      generalize s1.W[j].2 = l at *
      have HX := hid hx
      have HTK := hid htk
      have HR := hid hR
      obtain ⟨d, hd1, hd2⟩ := Tryz.undW2
      have HD := hid (And.intro hd1 hd2)
      have hel : (Value.int .i64 (i : Int) :: bs l).length = 17 := by rw [List.length_cons, bs_len, hx.2]
      have HIN : Hid ((Tryz.prog.info? 143).map (·.size) = some (Value.int .i64 (i : Int) :: bs l).length) := hid (by rw [hel]; exact Tryz.infoW1)
      have HT : Hid ((wr.alloc (.cells #[.int .i64 0, .int .u8 0, .int .u8 0, .int .u8 0, .int .u8 0, .int .u8 0, .int .u8 0, .int .u8 0, .int .u8 0, .int .u8 0, .int .u8 0, .int .u8 0, .int .u8 0, .int .u8 0, .int .u8 0, .int .u8 0, .int .u8 0] 143)).there wr.heap.size 0 (Value.int .i64 (i : Int) :: bs l).toArray.size) := hid (by show World.there _ _ 0 (Value.int .i64 (i : Int) :: bs l).length; rw [hel]; exact z17 wr)
      have HC : Hid ((Value.int .i64 (i : Int) :: bs l).toArray.all (·.oneCell') = true) := hid (all_oneCell_toArray (fun u hu => by rcases List.mem_cons.1 hu with rfl | hu; rfl; exact bs_one _ u hu))
      have j1 : (0 : Int) ≤ (j : Int) := by omega
      have j2 : (j : Int) < (s1.W.length : Int) := by omega
      have j3 : decide ((j : Int) < (s1.W.length : Int)) = true := by simpa using hlt
      have j4 : decide (j < s1.W.length) = true := by simpa using hlt
      have i1 : (0 : Int) ≤ (i : Int) := by omega
      have i2 : (i : Int) < (s1.n : Int) := by have := hx.1; omega
      have wj : wrap64 ((j : Int) + 1) = ((j + 1 : Nat) : Int) := by have := HWl.out; unfold wrap64; omega
      clear hx htk hR hd1 hd2 hel
      generalize hE : Value.int .i64 (i : Int) :: bs l = E at *
      as_aux_lemma =>
      go_upto_region 4 with (first | (refine wpList_load_mid rfl 143 _ rfl b (j * 17) rfl E d HR.out HD.out.1 HD.out.2 HIN.out ?_) | (refine wpList_store_mid rfl 143 _ _ rfl _ _ E.toArray rfl rfl HT.out HIN.out HC.out ?_))
      have hV : Var wr ((wr.alloc (.cells #[.int .i64 0, .int .u8 0, .int .u8 0, .int .u8 0, .int .u8 0, .int .u8 0, .int .u8 0, .int .u8 0, .int .u8 0, .int .u8 0, .int .u8 0, .int .u8 0, .int .u8 0, .int .u8 0, .int .u8 0, .int .u8 0, .int .u8 0] 143)).setCells wr.heap.size 0 E) i l := by rw [← hE]; exact Var.of wr i l HX.out.2
      simp only [Act.put]
      generalize (wr.alloc (.cells #[.int .i64 0, .int .u8 0, .int .u8 0, .int .u8 0, .int .u8 0, .int .u8 0, .int .u8 0, .int .u8 0, .int .u8 0, .int .u8 0, .int .u8 0, .int .u8 0, .int .u8 0, .int .u8 0, .int .u8 0, .int .u8 0, .int .u8 0] 143)).setCells wr.heap.size 0 E = w2 at *
      have HG2 := hid (hG.out.bel hV.bel)
      have HV1 : Hid (wr.heap.size ≠ k) := hid (by have := hG.out.kept.lt; omega)
      have HLs := hid (HKP.out w2 HG2.out.kp)
      clear HR HT HC HIN hE hb HKP hG
      rcases Nat.lt_or_ge j kn with hjk | hjk
      · obtain ⟨kb, ko, rfl, -, -, hcell⟩ := HLs.out.2 (by omega)
        have hjl : j < keep.length := by rw [HLK.out]; exact hjk
        have yk : w2.cell? ⟨kb, ko + j, none⟩ = some (.bool keep[j]) := hcell j _ (by rw [List.getElem?_map, List.getElem?_eq_getElem hjl]; rfl)
        have ek : keep[j]? = some keep[j] := List.getElem?_eq_getElem hjl
        have k2 : (j : Int) < (kn : Int) := by omega
        have k3 : decide ((j : Int) < (kn : Int)) = true := by simpa using hjk
        have k4 : decide (j < kn) = true := by simpa using hjk
        generalize keep[j] = kt at *
        have EK := hid ek
        clear hcell HLs ek
        cases kt
        · have EN : Hid (¬ keep[j]? = some true) := hid (by rw [EK.out]; decide)
          have hG4 : Gen w1 w2 F1 g s1 k q (some ⟨b, 0, none⟩) c1 (app (ke (s1.W.take (j + 1)) keep) s1.K) (app s1.W s1.K) := by
            rw [HTK.out, ke_snoc, if_neg (by rw [hlj]; exact EN.out), List.append_nil]
            exact HG2.out
          have HG4 := hid hG4
          clear hG4 HG2 hV
          go_wp2
          exact ⟨⟨j + 1, congrArg (Value.int .i64) wj, hid hlt, HG4⟩, by rw [wj]; simp [intOf]; omega⟩
        · have y0 := HG2.out.blk.cell 0
          simp at y0
          have y1 := hV.at_
          have y2 := hV.with_
          have HB : Hid ((Tryz.prog.info? 139).map (·.size) = some (bs l).length) := hid (by rw [bs_len, HX.out.2]; exact Tryz.infoB)
          have hv1 : wr.heap.size ≠ k := HV1.out
          as_aux_lemma =>
          go_wp2_with fail
          refine wp_region_held_drew (S := fun wx => wx.cell? ⟨g, 0, none⟩ = some (.slice (some ⟨k, 0, none⟩) s1.n s1.n) ∧ wx.cell? ⟨wr.heap.size, 0, none⟩ = some (.int .i64 (i : Int)) ∧ wx.rangeAt wr.heap.size 1 (bs l)) (by kernel_rfl) ⟨by simpa using y0, by simpa using y1, by simpa using y2⟩ (fun HS => ?_)
          have B3 : Hid (Below w2.heap.size w2 w2.drew) := hid ((Below.refl _ _).drew)
          generalize w2.drew = w3 at *
          refine wpAnyH_take (i := 0) (oi := ?oi0) (v := ?v0) ?hi0 (by kernel_rfl) (by kernel_rfl) (by kernel_rfl) ?hQ0 ?hy0 HS ?rest0
          case hi0 => simp only [List.getElem?_toArray, List.getElem?_cons_zero]; exact rfl
          case hQ0 => exact fun _ _ _ h => h
          case hy0 =>
            refine Or.inl ⟨by rfl, ?_⟩
            intro wS hSw
            go_simp
            try with_reducible rfl
          try simp only [Act.put, List.setIfInBounds_toArray, List.set_cons_zero, List.set_cons_succ]
          refine wpAnyH_take (i := 1) (oi := ?oi1) (v := ?v1) ?hi1 (by kernel_rfl) (by kernel_rfl) (by kernel_rfl) ?hQ1 ?hy1 HS ?rest1
          case hi1 => simp only [List.getElem?_toArray, List.getElem?_cons_succ, List.getElem?_cons_zero]; exact rfl
          case hQ1 => exact fun _ _ _ h => h
          case hy1 =>
            refine Or.inl ⟨by rfl, ?_⟩
            intro wS hSw
            go_simp
            try with_reducible rfl
          try simp only [Act.put, List.setIfInBounds_toArray, List.set_cons_zero, List.set_cons_succ]
          refine wpAnyH_take (i := 2) (oi := ?oi2) (v := ?v2) ?hi2 (by kernel_rfl) (by kernel_rfl) (by kernel_rfl) ?hQ2 ?hy2 HS ?rest2
          case hi2 => simp only [List.getElem?_toArray, List.getElem?_cons_succ, List.getElem?_cons_zero]; exact rfl
          case hQ2 => exact fun _ _ _ h => h
          case hy2 =>
            refine Or.inl ⟨by rfl, ?_⟩
            intro wS hSw
            go_simp
            try with_reducible rfl
          try simp only [Act.put, List.setIfInBounds_toArray, List.set_cons_zero, List.set_cons_succ]
          refine wpAnyH_take (i := 3) (oi := ?oi3) (v := ?v3) ?hi3 (by kernel_rfl) (by kernel_rfl) (by kernel_rfl) ?hQ3 ?hy3 HS ?rest3
          case hi3 => simp only [List.getElem?_toArray, List.getElem?_cons_succ, List.getElem?_cons_zero]; exact rfl
          case hQ3 => exact fun _ _ _ h => h
          case hy3 =>
            refine Or.inl ⟨by rfl, ?_⟩
            intro wS hSw
            obtain ⟨z0, z1, z2⟩ := hSw
            go_simp
            try with_reducible rfl
          try simp only [Act.put, List.setIfInBounds_toArray, List.set_cons_zero, List.set_cons_succ]
          refine wpAnyH_take (i := 4) (oi := ?oi4) (v := ?v4) ?hi4 (by kernel_rfl) (by kernel_rfl) (by kernel_rfl) ?hQ4 ?hy4 HS ?rest4
          case hi4 => simp only [List.getElem?_toArray, List.getElem?_cons_succ, List.getElem?_cons_zero]; exact rfl
          case hQ4 => exact fun _ _ _ h => h
          case hy4 =>
            refine Or.inl ⟨by rfl, ?_⟩
            intro wS hSw
            go_simp
            try with_reducible rfl
          try simp only [Act.put, List.setIfInBounds_toArray, List.set_cons_zero, List.set_cons_succ]
          refine wpAnyH_take (i := 5) (oi := ?oi5) (v := ?v5) ?hi5 (by kernel_rfl) (by kernel_rfl) (by kernel_rfl) ?hQ5 ?hy5 HS ?rest5
          case hi5 => simp only [List.getElem?_toArray, List.getElem?_cons_succ, List.getElem?_cons_zero]; exact rfl
          case hQ5 => exact fun _ _ _ h => h
          case hy5 =>
            refine Or.inl ⟨by rfl, ?_⟩
            intro wS hSw
            obtain ⟨z0, z1, z2⟩ := hSw
            go_simp
            try with_reducible rfl
          try simp only [Act.put, List.setIfInBounds_toArray, List.set_cons_zero, List.set_cons_succ]
          refine wpAnyH_take (i := 6) (oi := ?oi6) (v := ?v6) ?hi6 (by kernel_rfl) (by kernel_rfl) (by kernel_rfl) ?hQ6 ?hy6 HS ?rest6
          case hi6 => simp only [List.getElem?_toArray, List.getElem?_cons_succ, List.getElem?_cons_zero]; exact rfl
          case hQ6 => exact fun _ _ _ h => h
          case hy6 =>
            refine Or.inl ⟨by rfl, ?_⟩
            intro wS hSw
            go_simp
            try with_reducible rfl
          try simp only [Act.put, List.setIfInBounds_toArray, List.set_cons_zero, List.set_cons_succ]
          refine wpAnyH_take (i := 7) (oi := ?oi7) (v := ?v7) ?hi7 (by kernel_rfl) (by kernel_rfl) (by kernel_rfl) ?hQ7 ?hy7 HS ?rest7
          case hi7 => simp only [List.getElem?_toArray, List.getElem?_cons_succ, List.getElem?_cons_zero]; exact rfl
          case hQ7 => exact fun _ _ _ h => h
          case hy7 =>
            refine Or.inl ⟨by rfl, ?_⟩
            intro wS hSw
            refine Eq.trans (exec_load_mid 139 (.tmp 36) ?_ wr.heap.size 1 ?_ (bs l) _ hSw.2.2 Tryz.undB rfl HB.out) ?_
            · rfl
            · rfl
            · with_reducible rfl
          try simp only [Act.put, List.setIfInBounds_toArray, List.set_cons_zero, List.set_cons_succ]
          refine wpAnyH_take (i := 8) (oi := ?oi8) (v := ?v8) ?hi8 (by kernel_rfl) (by kernel_rfl) (by kernel_rfl) ?hQ8 ?hy8 HS ?rest8
          case hi8 => simp only [List.getElem?_toArray, List.getElem?_cons_succ, List.getElem?_cons_zero]; exact rfl
          case hQ8 => exact fun _ _ _ h => h
          case hy8 =>
            refine Or.inl ⟨by rfl, ?_⟩
            intro wS hSw
            go_simp
            try with_reducible rfl
          try simp only [Act.put, List.setIfInBounds_toArray, List.set_cons_zero, List.set_cons_succ]
          refine wpAnyH_ready (rs := [9]) (by kernel_rfl) (by simp) ?_
          refine AllReadyH.cons (o := ?o9) ?ho9 (fun K hK => ?step9) AllReadyH.nil
          case ho9 => simp only [List.getElem?_toArray, List.getElem?_cons_succ, List.getElem?_cons_zero]; exact rfl
          rw [if_pos (by rfl)]
          refine wp_store_mid 139 _ _ rfl k (i * 16) (bs l).toArray rfl rfl (by show World.there _ _ _ (bs l).length; rw [bs_len, HX.out.2]; exact there_part (HG2.out.bel B3.out).kept.there HX.out.1) HB.out (all_oneCell_toArray (bs_one _)) ?_
          refine hK.out _ _ ⟨by have h0 := ((HG2.out.bel B3.out).setK HKL.out HX.out.1 HX.out.2).blk.cell 0; simpa using h0, (World.cell?_of_block ((grown_setCells k (bs l) (i * 16) w3).block wr.heap.size (by have := hV.lt; have := B3.out.size; omega) (by simpa using hv1))).trans HS.2.1, World.rangeAt_setCells_apart HS.2.2 _ _ _ (.inl hv1)⟩ (fun HS => ?_)
          clear hK K
          try simp only [Act.put]
          refine wpAnyH_done (by kernel_rfl) ?_ _
          have hG4 : Gen w1 (w3.setCells k (i * 16) (bs l)) F1 g s1 k q (some ⟨b, 0, none⟩) c1 (app (ke (s1.W.take (j + 1)) keep) s1.K) (app s1.W s1.K) := by
            rw [HTK.out, ke_snoc, if_pos (by rw [hlj]; exact EK.out), app_snoc]
            exact (HG2.out.bel B3.out).setK HKL.out HX.out.1 HX.out.2
          clear HS y0 y1 y2 hV HG2 yk
          generalize w3.setCells k (i * 16) (bs l) = w4 at *
          have HG4 := hid hG4
          clear hG4
          go_wp2
          exact ⟨⟨j + 1, congrArg (Value.int .i64) wj, hid hlt, HG4⟩, by rw [wj]; simp [intOf]; omega⟩
      · have EN : Hid (¬ keep[j]? = some true) := hid (by rw [List.getElem?_eq_none (by rw [HLK.out]; exact hjk)]; simp)
        have k3 : decide ((j : Int) < (kn : Int)) = false := by simp; omega
        have k4 : decide (j < kn) = false := by simp; omega
        clear HLs
        have hG4 : Gen w1 w2 F1 g s1 k q (some ⟨b, 0, none⟩) c1 (app (ke (s1.W.take (j + 1)) keep) s1.K) (app s1.W s1.K) := by
          rw [HTK.out, ke_snoc, if_neg (by rw [hlj]; exact EN.out), List.append_nil]
          exact HG2.out
        have HG4 := hid hG4
        clear hG4 HG2 hV
        go_wp2
        exact ⟨⟨j + 1, congrArg (Value.int .i64) wj, hid hlt, HG4⟩, by rw [wj]; simp [intOf]; omega⟩
    · have HJ : Hid (j = s1.W.length) := hid (by have := hj.out; omega)
      have j3 : decide ((j : Int) < (s1.W.length : Int)) = false := by simp; omega
      have j4 : decide (j < s1.W.length) = false := by simp; omega
      have hG' := hG.out
      rw [HJ.out, List.take_length] at hG'
      have HKL : Hid (∀ i, (app (ke s1.W keep) s1.K i).length = 16) := hid (app_len _ _ hG'.ok.K fun x hx => (hG'.ok.W x (ke_mem _ _ x hx)).2)
      have HSL : Hid (∀ V i, (mix V (app (ke s1.W keep) s1.K) (app s1.W s1.K) i).length = 16) := hid (fun V => mix_len V HKL.out hG'.ok.S)
      have HC : Hid (s1.crash keep = { n := s1.n, K := app (ke s1.W keep) s1.K, W := [], lim := none }) := hid rfl
      have HEND := hid (fun i => mix_end s1.W s1.K keep i)
      have hG2 : Gen w1 wr F1 g s1 k q A1 c1 (app (ke s1.W keep) s1.K) (mix (s1.W.take 0) (app (ke s1.W keep) s1.K) (app s1.W s1.K)) := by rw [List.take_zero, mix_nil]; exact hG'
      generalize app (ke s1.W keep) s1.K = K' at *
      generalize app s1.W s1.K = S' at *
      have y2 := hG2.blk.cell 2
      simp at y2
      have HG2 := hid hG2
      clear hG hG' hG2 hj hge HKP HLK
      as_aux_lemma =>
      go_wp2_with fail
      go_loopw [45] (fun iv wz => ∃ j : Nat, iv = .int .i64 (j : Int) ∧ Hid (j ≤ s1.W.length) ∧ Hid (Gen w1 wz F1 g s1 k q A1 c1 K' (mix (s1.W.take j) K' S'))) (fun iv _ => s1.W.length - (intOf iv).toNat)
      case atStart => exact ⟨0, rfl, hid (Nat.zero_le _), HG2⟩
      case round =>
        obtain ⟨j, rfl, hj, hG⟩ := hrel
        clear HG2 y2 j3 j4 HJ
        rcases Nat.lt_or_ge j s1.W.length with hlt | hge
        · skip
          obtain ⟨b, rfl, hb, hR⟩ := hG.out.elem hlt
          have hx := hG.out.ok.W s1.W[j] (List.getElem_mem hlt)
          have htk : s1.W.take (j + 1) = s1.W.take j ++ [(s1.W[j].1, s1.W[j].2)] := List.take_succ_eq_append_getElem hlt
          generalize s1.W[j].1 = i at *
          generalize s1.W[j].2 = l2 at *
          have HX := hid hx
          have HTK := hid htk
          have HR := hid hR
          obtain ⟨d, hd1, hd2⟩ := Tryz.undW2
          have HD := hid (And.intro hd1 hd2)
          have hel : (Value.int .i64 (i : Int) :: bs l2).length = 17 := by rw [List.length_cons, bs_len, hx.2]
          have HIN : Hid ((Tryz.prog.info? 143).map (·.size) = some (Value.int .i64 (i : Int) :: bs l2).length) := hid (by rw [hel]; exact Tryz.infoW1)
          have HT : Hid ((wr.alloc (.cells #[.int .i64 0, .int .u8 0, .int .u8 0, .int .u8 0, .int .u8 0, .int .u8 0, .int .u8 0, .int .u8 0, .int .u8 0, .int .u8 0, .int .u8 0, .int .u8 0, .int .u8 0, .int .u8 0, .int .u8 0, .int .u8 0, .int .u8 0] 143)).there wr.heap.size 0 (Value.int .i64 (i : Int) :: bs l2).toArray.size) := hid (by show World.there _ _ 0 (Value.int .i64 (i : Int) :: bs l2).length; rw [hel]; exact z17 wr)
          have HC2 : Hid ((Value.int .i64 (i : Int) :: bs l2).toArray.all (·.oneCell') = true) := hid (all_oneCell_toArray (fun u hu => by rcases List.mem_cons.1 hu with rfl | hu; rfl; exact bs_one _ u hu))
          have j1 : (0 : Int) ≤ (j : Int) := by omega
          have j2 : (j : Int) < (s1.W.length : Int) := by omega
          have j3 : decide ((j : Int) < (s1.W.length : Int)) = true := by simpa using hlt
          have j4 : decide (j < s1.W.length) = true := by simpa using hlt
          have i1 : (0 : Int) ≤ (i : Int) := by omega
          have i2 : (i : Int) < (s1.n : Int) := by have := hx.1; omega
          have wj : wrap64 ((j : Int) + 1) = ((j + 1 : Nat) : Int) := by have := HWl.out; unfold wrap64; omega
          clear hx htk hR hd1 hd2 hel
          generalize hE : Value.int .i64 (i : Int) :: bs l2 = E at *
          obtain ⟨l, hl⟩ : ∃ l, l = K' i := ⟨_, rfl⟩
          have HL := hid hl
          have HX0 := HX
          have HX : Hid (i < s1.n ∧ l.length = 16) := hid ⟨HX.out.1, by rw [HL.out]; exact HKL.out i⟩
          clear hl
          as_aux_lemma =>
          go_upto_region 10 with (first | (refine wpList_load_mid rfl 143 _ rfl b (j * 17) rfl E d HR.out HD.out.1 HD.out.2 HIN.out ?_) | (refine wpList_store_mid rfl 143 _ _ rfl _ _ E.toArray rfl rfl HT.out HIN.out HC2.out ?_))
          have hV : Var wr ((wr.alloc (.cells #[.int .i64 0, .int .u8 0, .int .u8 0, .int .u8 0, .int .u8 0, .int .u8 0, .int .u8 0, .int .u8 0, .int .u8 0, .int .u8 0, .int .u8 0, .int .u8 0, .int .u8 0, .int .u8 0, .int .u8 0, .int .u8 0, .int .u8 0] 143)).setCells wr.heap.size 0 E) i l2 := by rw [← hE]; exact Var.of wr i l2 HX0.out.2
          simp only [Act.put]
          generalize (wr.alloc (.cells #[.int .i64 0, .int .u8 0, .int .u8 0, .int .u8 0, .int .u8 0, .int .u8 0, .int .u8 0, .int .u8 0, .int .u8 0, .int .u8 0, .int .u8 0, .int .u8 0, .int .u8 0, .int .u8 0, .int .u8 0, .int .u8 0, .int .u8 0] 143)).setCells wr.heap.size 0 E = w2 at *
          have HG2 := hid (hG.out.bel hV.bel)
          have y0 := HG2.out.blk.cell 0
          have y1 := HG2.out.blk.cell 1
          simp at y0 y1
          have y2 := hV.at_
          have y3 : w2.rangeAt k (i * 16) (bs l) := by rw [HL.out]; exact HG2.out.kept.row i HX.out.1
          have HB : Hid ((Tryz.prog.info? 139).map (·.size) = some (bs l).length) := hid (by rw [bs_len, HX.out.2]; exact Tryz.infoB)
          have hv1 : wr.heap.size ≠ q := by have := hG.out.seen.lt; omega
          have HSL : Hid (∀ i, (mix (s1.W.take j) K' S' i).length = 16) := hid (HSL.out _)
          clear HR HT HC2 HIN hE hb hG
          refine wp_region_held_drew (S := fun wx => wx.cell? ⟨g, 0, none⟩ = some (.slice (some ⟨k, 0, none⟩) s1.n s1.n) ∧ wx.cell? ⟨g, 1, none⟩ = some (.slice (some ⟨q, 0, none⟩) s1.n s1.n) ∧ wx.cell? ⟨wr.heap.size, 0, none⟩ = some (.int .i64 (i : Int)) ∧ wx.rangeAt k (i * 16) (bs l)) (by kernel_rfl) ⟨by simpa using y0, by simpa using y1, by simpa using y2, by simpa using y3⟩ (fun HS => ?_)
          have B3 : Hid (Below w2.heap.size w2 w2.drew) := hid ((Below.refl _ _).drew)
          generalize w2.drew = w3 at *
          refine wpAnyH_take (i := 0) (oi := ?oiz0) (v := ?vz0) ?hiz0 (by kernel_rfl) (by kernel_rfl) (by kernel_rfl) ?hQz0 ?hyz0 HS ?restz0
          case hiz0 => simp only [List.getElem?_toArray, List.getElem?_cons_zero]; exact rfl
          case hQz0 => exact fun _ _ _ h => h
          case hyz0 =>
            refine Or.inl ⟨by rfl, ?_⟩
            intro wS hSw
            go_simp
            try with_reducible rfl
          try simp only [Act.put, List.setIfInBounds_toArray, List.set_cons_zero, List.set_cons_succ]
          refine wpAnyH_take (i := 1) (oi := ?oiz1) (v := ?vz1) ?hiz1 (by kernel_rfl) (by kernel_rfl) (by kernel_rfl) ?hQz1 ?hyz1 HS ?restz1
          case hiz1 => simp only [List.getElem?_toArray, List.getElem?_cons_succ, List.getElem?_cons_zero]; exact rfl
          case hQz1 => exact fun _ _ _ h => h
          case hyz1 =>
            refine Or.inl ⟨by rfl, ?_⟩
            intro wS hSw
            go_simp
            try with_reducible rfl
          try simp only [Act.put, List.setIfInBounds_toArray, List.set_cons_zero, List.set_cons_succ]
          refine wpAnyH_take (i := 2) (oi := ?oiz2) (v := ?vz2) ?hiz2 (by kernel_rfl) (by kernel_rfl) (by kernel_rfl) ?hQz2 ?hyz2 HS ?restz2
          case hiz2 => simp only [List.getElem?_toArray, List.getElem?_cons_succ, List.getElem?_cons_zero]; exact rfl
          case hQz2 => exact fun _ _ _ h => h
          case hyz2 =>
            refine Or.inl ⟨by rfl, ?_⟩
            intro wS hSw
            go_simp
            try with_reducible rfl
          try simp only [Act.put, List.setIfInBounds_toArray, List.set_cons_zero, List.set_cons_succ]
          refine wpAnyH_take (i := 3) (oi := ?oiz3) (v := ?vz3) ?hiz3 (by kernel_rfl) (by kernel_rfl) (by kernel_rfl) ?hQz3 ?hyz3 HS ?restz3
          case hiz3 => simp only [List.getElem?_toArray, List.getElem?_cons_succ, List.getElem?_cons_zero]; exact rfl
          case hQz3 => exact fun _ _ _ h => h
          case hyz3 =>
            refine Or.inl ⟨by rfl, ?_⟩
            intro wS hSw
            obtain ⟨z0, z1, z2, z3⟩ := hSw
            go_simp
            try with_reducible rfl
          try simp only [Act.put, List.setIfInBounds_toArray, List.set_cons_zero, List.set_cons_succ]
          refine wpAnyH_take (i := 4) (oi := ?oiz4) (v := ?vz4) ?hiz4 (by kernel_rfl) (by kernel_rfl) (by kernel_rfl) ?hQz4 ?hyz4 HS ?restz4
          case hiz4 => simp only [List.getElem?_toArray, List.getElem?_cons_succ, List.getElem?_cons_zero]; exact rfl
          case hQz4 => exact fun _ _ _ h => h
          case hyz4 =>
            refine Or.inl ⟨by rfl, ?_⟩
            intro wS hSw
            go_simp
            try with_reducible rfl
          try simp only [Act.put, List.setIfInBounds_toArray, List.set_cons_zero, List.set_cons_succ]
          refine wpAnyH_take (i := 5) (oi := ?oiz5) (v := ?vz5) ?hiz5 (by kernel_rfl) (by kernel_rfl) (by kernel_rfl) ?hQz5 ?hyz5 HS ?restz5
          case hiz5 => simp only [List.getElem?_toArray, List.getElem?_cons_succ, List.getElem?_cons_zero]; exact rfl
          case hQz5 => exact fun _ _ _ h => h
          case hyz5 =>
            refine Or.inl ⟨by rfl, ?_⟩
            intro wS hSw
            obtain ⟨z0, z1, z2, z3⟩ := hSw
            go_simp
            try with_reducible rfl
          try simp only [Act.put, List.setIfInBounds_toArray, List.set_cons_zero, List.set_cons_succ]
          refine wpAnyH_take (i := 6) (oi := ?oiz6) (v := ?vz6) ?hiz6 (by kernel_rfl) (by kernel_rfl) (by kernel_rfl) ?hQz6 ?hyz6 HS ?restz6
          case hiz6 => simp only [List.getElem?_toArray, List.getElem?_cons_succ, List.getElem?_cons_zero]; exact rfl
          case hQz6 => exact fun _ _ _ h => h
          case hyz6 =>
            refine Or.inl ⟨by rfl, ?_⟩
            intro wS hSw
            go_simp
            try with_reducible rfl
          try simp only [Act.put, List.setIfInBounds_toArray, List.set_cons_zero, List.set_cons_succ]
          refine wpAnyH_take (i := 7) (oi := ?oiz7) (v := ?vz7) ?hiz7 (by kernel_rfl) (by kernel_rfl) (by kernel_rfl) ?hQz7 ?hyz7 HS ?restz7
          case hiz7 => simp only [List.getElem?_toArray, List.getElem?_cons_succ, List.getElem?_cons_zero]; exact rfl
          case hQz7 => exact fun _ _ _ h => h
          case hyz7 =>
            refine Or.inl ⟨by rfl, ?_⟩
            intro wS hSw
            go_simp
            try with_reducible rfl
          try simp only [Act.put, List.setIfInBounds_toArray, List.set_cons_zero, List.set_cons_succ]
          refine wpAnyH_take (i := 8) (oi := ?oiz8) (v := ?vz8) ?hiz8 (by kernel_rfl) (by kernel_rfl) (by kernel_rfl) ?hQz8 ?hyz8 HS ?restz8
          case hiz8 => simp only [List.getElem?_toArray, List.getElem?_cons_succ, List.getElem?_cons_zero]; exact rfl
          case hQz8 => exact fun _ _ _ h => h
          case hyz8 =>
            refine Or.inl ⟨by rfl, ?_⟩
            intro wS hSw
            go_simp
            try with_reducible rfl
          try simp only [Act.put, List.setIfInBounds_toArray, List.set_cons_zero, List.set_cons_succ]
          refine wpAnyH_take (i := 9) (oi := ?oiz9) (v := ?vz9) ?hiz9 (by kernel_rfl) (by kernel_rfl) (by kernel_rfl) ?hQz9 ?hyz9 HS ?restz9
          case hiz9 => simp only [List.getElem?_toArray, List.getElem?_cons_succ, List.getElem?_cons_zero]; exact rfl
          case hQz9 => exact fun _ _ _ h => h
          case hyz9 =>
            refine Or.inl ⟨by rfl, ?_⟩
            intro wS hSw
            obtain ⟨z0, z1, z2, z3⟩ := hSw
            go_simp
            try with_reducible rfl
          try simp only [Act.put, List.setIfInBounds_toArray, List.set_cons_zero, List.set_cons_succ]
          refine wpAnyH_take (i := 10) (oi := ?oiz10) (v := ?vz10) ?hiz10 (by kernel_rfl) (by kernel_rfl) (by kernel_rfl) ?hQz10 ?hyz10 HS ?restz10
          case hiz10 => simp only [List.getElem?_toArray, List.getElem?_cons_succ, List.getElem?_cons_zero]; exact rfl
          case hQz10 => exact fun _ _ _ h => h
          case hyz10 =>
            refine Or.inl ⟨by rfl, ?_⟩
            intro wS hSw
            go_simp
            try with_reducible rfl
          try simp only [Act.put, List.setIfInBounds_toArray, List.set_cons_zero, List.set_cons_succ]
          refine wpAnyH_take (i := 11) (oi := ?oiz11) (v := ?vz11) ?hiz11 (by kernel_rfl) (by kernel_rfl) (by kernel_rfl) ?hQz11 ?hyz11 HS ?restz11
          case hiz11 => simp only [List.getElem?_toArray, List.getElem?_cons_succ, List.getElem?_cons_zero]; exact rfl
          case hQz11 => exact fun _ _ _ h => h
          case hyz11 =>
            refine Or.inl ⟨by rfl, ?_⟩
            intro wS hSw
            obtain ⟨z0, z1, z2, z3⟩ := hSw
            go_simp
            try with_reducible rfl
          try simp only [Act.put, List.setIfInBounds_toArray, List.set_cons_zero, List.set_cons_succ]
          refine wpAnyH_take (i := 12) (oi := ?oiz12) (v := ?vz12) ?hiz12 (by kernel_rfl) (by kernel_rfl) (by kernel_rfl) ?hQz12 ?hyz12 HS ?restz12
          case hiz12 => simp only [List.getElem?_toArray, List.getElem?_cons_succ, List.getElem?_cons_zero]; exact rfl
          case hQz12 => exact fun _ _ _ h => h
          case hyz12 =>
            refine Or.inl ⟨by rfl, ?_⟩
            intro wS hSw
            go_simp
            try with_reducible rfl
          try simp only [Act.put, List.setIfInBounds_toArray, List.set_cons_zero, List.set_cons_succ]
          refine wpAnyH_take (i := 13) (oi := ?oiz13) (v := ?vz13) ?hiz13 (by kernel_rfl) (by kernel_rfl) (by kernel_rfl) ?hQz13 ?hyz13 HS ?restz13
          case hiz13 => simp only [List.getElem?_toArray, List.getElem?_cons_succ, List.getElem?_cons_zero]; exact rfl
          case hQz13 => exact fun _ _ _ h => h
          case hyz13 =>
            refine Or.inl ⟨by rfl, ?_⟩
            intro wS hSw
            refine Eq.trans (exec_load_mid 139 (.tmp 61) ?_ k (i * 16) ?_ (bs l) _ hSw.2.2.2 Tryz.undB rfl HB.out) ?_
            · rfl
            · rfl
            · with_reducible rfl
          try simp only [Act.put, List.setIfInBounds_toArray, List.set_cons_zero, List.set_cons_succ]
          refine wpAnyH_take (i := 14) (oi := ?oiz14) (v := ?vz14) ?hiz14 (by kernel_rfl) (by kernel_rfl) (by kernel_rfl) ?hQz14 ?hyz14 HS ?restz14
          case hiz14 => simp only [List.getElem?_toArray, List.getElem?_cons_succ, List.getElem?_cons_zero]; exact rfl
          case hQz14 => exact fun _ _ _ h => h
          case hyz14 =>
            refine Or.inl ⟨by rfl, ?_⟩
            intro wS hSw
            go_simp
            try with_reducible rfl
          try simp only [Act.put, List.setIfInBounds_toArray, List.set_cons_zero, List.set_cons_succ]
          refine wpAnyH_ready (rs := [15]) (by kernel_rfl) (by simp) ?_
          refine AllReadyH.cons (o := ?oz15) ?hoz15 (fun K hK => ?stepz15) AllReadyH.nil
          case hoz15 => simp only [List.getElem?_toArray, List.getElem?_cons_succ, List.getElem?_cons_zero]; exact rfl
          rw [if_pos (by rfl)]
          refine wp_store_mid 139 _ _ rfl q (i * 16) (bs l).toArray rfl rfl (by show World.there _ _ _ (bs l).length; rw [bs_len, HX.out.2]; exact there_part (HG2.out.bel B3.out).seen.there HX.out.1) HB.out (all_oneCell_toArray (bs_one _)) ?_
          refine hK.out _ _ ⟨by have h0 := ((HG2.out.bel B3.out).setS HSL.out HX.out.1 HX.out.2).blk.cell 0; simpa using h0, by have h0 := ((HG2.out.bel B3.out).setS HSL.out HX.out.1 HX.out.2).blk.cell 1; simpa using h0, (World.cell?_of_block ((grown_setCells q (bs l) (i * 16) w3).block wr.heap.size (by have := hV.lt; have := B3.out.size; omega) (by simpa using hv1))).trans HS.2.2.1, World.rangeAt_setCells_apart HS.2.2.2 _ _ _ (.inl HG2.out.kq)⟩ (fun HS => ?_)
          clear hK K
          try simp only [Act.put]
          refine wpAnyH_done (by kernel_rfl) ?_ _
          have hG4 : Gen w1 (w3.setCells q (i * 16) (bs l)) F1 g s1 k q (some ⟨b, 0, none⟩) c1 K' (mix (s1.W.take (j + 1)) K' S') := by
            rw [HTK.out, mix_snoc, ← HL.out]
            exact (HG2.out.bel B3.out).setS HSL.out HX.out.1 HX.out.2
          clear HS y0 y1 y2 y3 hV HG2
          generalize w3.setCells q (i * 16) (bs l) = w4 at *
          have HG4 := hid hG4
          clear hG4
          go_wp2
          exact ⟨⟨j + 1, congrArg (Value.int .i64) wj, hid hlt, HG4⟩, by rw [wj]; simp [intOf]; omega⟩
        · have HJ : Hid (j = s1.W.length) := hid (by have := hj.out; omega)
          have j3 : decide ((j : Int) < (s1.W.length : Int)) = false := by simp; omega
          have j4 : decide (j < s1.W.length) = false := by simp; omega
          have hG' := hG.out
          rw [HJ.out, List.take_length] at hG'
          have y2 := hG'.blk.cell 2
          have y3 := hG'.blk.cell 3
          have y4 := hG'.blk.cell 4
          have f2 := hG'.blk.frozen 2
          have f3 := hG'.blk.frozen 3
          have f4 := hG'.blk.frozen 4
          simp at y2 y3 y4
          have HN : Hid (Left w1 (((wr.setCell ⟨g, 2, none⟩ (.slice none 0 0)).setCell ⟨g, 3, none⟩ (.bool false)).setCell ⟨g, 4, none⟩ (.int .i64 0)) F1 g (s1.crash keep)) := hid (by
            rw [HC.out]
            exact hG'.close (fun i _ => HEND.out i) HKL.out none (fun d hd => by cases hd) (((grown_setCell wr g 2 _).trans (grown_setCell _ g 3 _)).trans (grown_setCell _ g 4 _)) (((hG'.blk.store 2 _).store 3 _).store 4 _))
          clear hG hG' hj hge
          go_wp2
          go_end0
          exact ⟨rfl, HN.out⟩
end Go.Proofs.YtolaojkcofbkhaaGreat

/- The document's text of a block: bytes and noughts behind them; what Overwrite answers to a wrong call. -/
namespace Go.Proofs.YtolaojkcofbkhaaGreat
open Go.RowKit

theorem dstr_app (a b : List UInt8) : str a ++ str b = str (a ++ b) := ByteArray.mk_append_mk a b
set_option maxRecDepth 100000 in
theorem full_c (l : List UInt8) (w : World) (hl : l.length ≤ 16) :
    Calls Tryz.prog 44 #[.string (str l)] w fun e w' => e = .returned (.string (str (pad l))) ∧ w = w' := by
  have HL := hid hl
  clear hl
  go_enter Tryz.func44, Tryz.ntmps44
  go_wp2_with fail
  go_loopw [0] (fun v wr => ∃ m : Nat, v = .string (str (l ++ List.replicate m 0)) ∧ Hid (l.length + m ≤ 16) ∧ w = wr) (fun v _ => match v with | .string s => 16 - s.size | _ => 0)
  case atStart => exact ⟨0, by simp, hid (by simpa using HL.out), rfl⟩
  case round =>
    obtain ⟨m, rfl, hm, rfl⟩ := hrel
    have hsz : (str (l ++ List.replicate m 0)).size = l.length + m := by rw [str_size]; simp
    rcases Nat.lt_or_ge (l.length + m) 16 with h | h
    · have e1 : decide (((str (l ++ List.replicate m 0)).size : Int) < 16) = true := by rw [hsz]; simp; omega
      have e2 : decide ((str (l ++ List.replicate m 0)).size < 16) = true := by rw [hsz]; simp; omega
      have k1 : ¬ 9223372036854775807 < (str (l ++ List.replicate m 0)).size + 1 := by rw [hsz]; omega
      have hap : str (l ++ List.replicate m 0) ++ (⟨#[0]⟩ : ByteArray) = str (l ++ List.replicate (m + 1) 0) := by
        rw [show (⟨#[0]⟩ : ByteArray) = str [0] from rfl, dstr_app, List.append_assoc, List.replicate_succ']
      have hsz2 : (str (l ++ List.replicate (m + 1) 0)).size = l.length + (m + 1) := by rw [str_size]; simp
      generalize ht2 : str (l ++ List.replicate (m + 1) 0) = t2 at *
      generalize str (l ++ List.replicate m 0) = t1 at *
      have H1 := hid hsz
      have H2 := hid hsz2
      have HT := hid ht2
      clear hsz hsz2 ht2
      go_wp2
      refine ⟨⟨m + 1, congrArg Value.string HT.out.symm, hid (by omega), by first | trivial | rfl⟩, ?_⟩
      show 16 - t2.size < 16 - t1.size
      rw [H1.out, H2.out]
      omega
    · have hp : str (l ++ List.replicate m 0) = str (pad l) := by
        have : m = 16 - l.length := by have := hm.out; omega
        rw [this]
        rfl
      have e1 : decide (((str (l ++ List.replicate m 0)).size : Int) < 16) = false := by rw [hsz]; simp; omega
      have e2 : decide ((str (l ++ List.replicate m 0)).size < 16) = false := by rw [hsz]; simp; omega
      rw [hp] at e1 e2 ⊢
      clear hsz hp
      go_wp2
      go_ret
      exact ⟨rfl, rfl⟩

set_option maxRecDepth 100000 in
theorem over_nil (w : World) (i : Int) (A : Option Addr) (n c : Nat) :
    Calls Tryz.prog 22 #[.pointer none, .int .i64 i, .slice A n c] w fun e w' => e = .returned (.int .i64 1) ∧ Below w.heap.size w w' := by
  go_enter Tryz.func22, Tryz.ntmps22
  go_wp2_with fail
  refine (wrong_nil _ i _ _ _).mono ?_
  rintro e w' ⟨rfl, rfl⟩
  go_wp2
  go_ret
  exact ⟨rfl, (Below.refl _ _).alloc (Nat.le_refl _) _⟩
set_option maxRecDepth 100000 in
theorem over_bad (w : World) (F : Nat → Prop) (g : Nat) (s : St) (h : Dev w F g s) (i : Int) (A : Option Addr) (n c : Nat) (hb : bad s i n) :
    Calls Tryz.prog 22 #[.pointer (some ⟨g, 0, none⟩), .int .i64 i, .slice A n c] w fun e w' => e = .returned (.int .i64 2) ∧ Below w.heap.size w w' := by
  have hbel : ∀ o, Below w.heap.size w (w.alloc o) := fun o => (Below.refl _ _).alloc (Nat.le_refl _) _
  have hw := fun o => wrong_bad (w.alloc o) F g s (h.bel (hbel o)) i A n c hb
  clear h hb
  go_enter Tryz.func22, Tryz.ntmps22
  go_wp2_with fail
  refine (hw _).mono ?_
  rintro e w' ⟨rfl, rfl⟩
  go_wp2
  go_ret
  exact ⟨rfl, hbel _⟩
end Go.Proofs.YtolaojkcofbkhaaGreat

/- Words on devices for the walks of laws. -/
namespace Go.Proofs.YtolaojkcofbkhaaGreat
open Go.RowKit

theorem wp_makeb {op : Oper} {a : Act} {w : World} {K : Act → World → Prop} {Q : Exit → Act → World → Prop} (l c : Operand) (ho : op.op = .makeSlice 51 l c)
    (N : Nat) (hl : a.eval l = .int .i64 (N : Int)) (hc : a.eval c = .int .i64 (N : Int)) (hN : N ≤ 1000000)
    (h : K (a.put op.dst (.slice (some ⟨w.heap.size, 0, none⟩) N N)) (w.alloc (.cells (bs (List.replicate N 0)).toArray 5))) : op.wp Tryz.prog a w K Q := by
  obtain ⟨i, hi, hz0, hz1, hz2⟩ := info_parts Tryz.infoU8
  have hb : (i.bytes : Int) * (N : Int) ≤ 281474976710656 := by rw [hz2]; omega
  have hrun := run_make (P := Tryz.prog) w 51 5 i (.int .u8 0) Tryz.underlying51 hi hz0 .i64 .i64 N N (by omega) (by omega) hb (by omega)
  rw [Int.toNat_natCast, hz1, Nat.mul_one] at hrun
  have hcells : madeCells (Value.cells (.int .u8 0)) N = (bs (List.replicate N 0)).toArray := by
    show madeCells #[.int .u8 0] N = _
    apply Array.toList_inj.1
    rw [toList_madeCells_one]
    simp [bs]
  rw [hcells] at hrun
  unfold Oper.wp execOp
  simp only [ho, hl, hc, Sem.run_bind, hrun, Result.andThen_ok]
  exact h

theorem Dev.no {w : World} {F : Nat → Prop} {g : Nat} {s : St} (h : Dev w F g s) {b : Nat} (hb : w.heap.size ≤ b) : ¬ F b := fun e => by have := h.lt b e; omega
theorem Left.dev {w w' : World} {F : Nat → Prop} {g : Nat} {s : St} {hi : Nat} (h : Left w w' F g s) (hF : ∀ j, F j → hi ≤ j) (hw : hi ≤ w.heap.size) : ∃ F', Dev w' F' g s ∧ (∀ j, F' j → hi ≤ j) ∧ Below hi w w' := by
  obtain ⟨F', hd, hk, hF'⟩ := h
  exact ⟨F', hd, fun j hj => by rcases hF' j hj with e | e; exact hF j e; omega, hk.below hF hw⟩
theorem run_conv {w : World} {lo hi n c : Nat} {A : Option Addr} {l : List UInt8} (h : Bts w lo hi A n l) : (convert 51 9 (.slice A n c)).run Tryz.prog w = .ok (.string (str l)) w :=
  run_str 51 9 5 Tryz.underlying51 Tryz.underlying5 Tryz.underlying9 h
end Go.Proofs.YtolaojkcofbkhaaGreat
