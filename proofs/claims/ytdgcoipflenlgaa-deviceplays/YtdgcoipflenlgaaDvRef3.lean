/- The document's device: Sync, Crash, Overwrite, New. -/
import Derived.Test.YtdgcoipflenlgaaDvRef2
namespace Go.Proofs.Ytdgcoipflenlgaa
open Go.RowKit

section
variable {w : World} {F : Nat → Prop} {g : Nat} {s : St} {kb kc lc : Nat} {LA : Option Addr}
theorem RDevAt.bel (h : RDevAt w F g s kb kc LA lc) {w' : World} (hb : Below w.heap.size w w') : RDevAt w' F g s kb kc LA lc :=
  ⟨h.blk.keep (hb.block g (h.F g h.Fg)), own_keep h.kept fun b hb' => (by simp at hb'; subst hb'; exact hb.block kb (h.F kb h.Fk)), own_keep h.L fun b hb' => hb.block b (h.F b (h.gl b hb').2.2), h.gk, h.Fk, h.gl, h.Fg, fun j hj => Nat.lt_of_lt_of_le (h.F j hj) hb.size, h.ok⟩
theorem RDevAt.setK (h : RDevAt w F g s kb kc LA lc) {i : Nat} {b : List UInt8} (hb : b.length = 16) : RDevAt (w.setCell ⟨kb, i, none⟩ (.string (str b))) F g { s with K := upd s.K i b } kb kc LA lc := by
  have hg := grown_setCell w kb i (.string (str b))
  refine ⟨h.blk.keep (hg.block g (h.F g h.Fg) (by simpa using Ne.symm h.gk)), ?_, own_keep h.L fun b hb' => hg.block b (h.F b (h.gl b hb').2.2) (by simpa using (h.gl b hb').2.1), h.gk, h.Fk, h.gl, h.Fg, fun j hj => Nat.lt_of_lt_of_le (h.F j hj) hg.size, ⟨h.ok.n1, h.ok.n2, upd_len h.ok.K hb, h.ok.W, h.ok.lim⟩⟩
  have h1 := own_store (k := i) h.kept (.string (str b))
  rw [ksc_set] at h1
  exact h1
theorem RDevAt.nilL (h : RDevAt w F g s kb kc LA lc) : RDevAt (w.setCell ⟨g, 1, none⟩ (.slice none 0 0)) F g { s with W := [] } kb kc none 0 := by
  have hg := grown_setCell w g 1 (.slice none 0 0)
  exact ⟨h.blk.store 1 _, own_keep h.kept fun b hb' => (by simp at hb'; subst hb'; exact hg.block kb (h.F kb h.Fk) (by simpa using h.gk)), ⟨rfl, .inl ⟨rfl, rfl⟩⟩, h.gk, h.Fk, fun b hb' => (by cases hb'), h.Fg, fun j hj => Nat.lt_of_lt_of_le (h.F j hj) hg.size, ⟨h.ok.n1, h.ok.n2, h.ok.K, fun x hx => (by cases hx), h.ok.lim⟩⟩
theorem RDevAt.elem (h : RDevAt w F g s kb kc LA lc) {j : Nat} (hj : j < s.W.length) : ∃ lb, LA = some ⟨lb, 0, none⟩ ∧ w.rangeAt lb (j * 2) [.int .i64 (s.W[j].1 : Int), .string (str s.W[j].2)] := by
  obtain ⟨lb, hA, _, h1, h2⟩ := own_cells2 h.L hj
  refine ⟨lb, hA, fun t v hv => ?_⟩
  rcases t with _ | _ | t
  · simp at hv; subst hv; exact h1
  · simp at hv; subst hv; exact h2
  · simp at hv
theorem RDevAt.keptCell (h : RDevAt w F g s kb kc LA lc) {i : Nat} (hi : i < s.n) : w.cell? ⟨kb, i, none⟩ = some (.string (str (s.K i))) ∧ w.frozen? ⟨kb, i, none⟩ = false := own_cell1 h.kept hi (ksc_at s.n s.K i hi)
end
theorem z2 (w : World) : (w.alloc (.cells #[.int .i64 0, .string ⟨#[]⟩] 68)).there w.heap.size 0 2 := by
  have hB := Blk.new w 68 #[.int .i64 0, .string ⟨#[]⟩]
  refine fun j hj => ⟨?_, hB.frozen _⟩
  rw [hB.cell, Nat.zero_add, Array.getElem?_eq_getElem (by simpa using hj)]
  rfl
theorem Try.undR2 : ∃ d, Try.prog.underlying 68 = some d ∧ d.isRow = true := ⟨_, Try.underlying68, rfl⟩
theorem Try.infoR1 : (Try.prog.info? 68).map (·.size) = some 2 := by kernel_rfl
/-- The variable of a round: a write's two cells in a block of their own. -/
structure VarR (w w1 : World) (i : Nat) (b : List UInt8) : Prop where
  bel : Below w.heap.size w w1
  c0 : w1.cell? ⟨w.heap.size, 0, none⟩ = some (.int .i64 (i : Int))
  c1 : w1.cell? ⟨w.heap.size, 1, none⟩ = some (.string (str b))
  lt : w.heap.size < w1.heap.size
theorem VarR.of (w : World) (i : Nat) (b : List UInt8) : VarR w ((w.alloc (.cells #[.int .i64 0, .string ⟨#[]⟩] 68)).setCells w.heap.size 0 [.int .i64 (i : Int), .string (str b)]) i b := by
  have hr : ((w.alloc (.cells #[.int .i64 0, .string ⟨#[]⟩] 68)).setCells w.heap.size 0 [.int .i64 (i : Int), .string (str b)]).rangeAt w.heap.size 0 [.int .i64 (i : Int), .string (str b)] := World.rangeAt_setCells_same _ _ _ _ (z2 w)
  have hg := grown_setCells w.heap.size [.int .i64 (i : Int), .string (str b)] 0 (w.alloc (.cells #[.int .i64 0, .string ⟨#[]⟩] 68))
  exact ⟨((Below.refl _ _).alloc (Nat.le_refl _) _).grown hg (by simp) (fun k hk => by injection hk with hk; omega), hr 0 _ rfl, hr 1 _ rfl, Nat.lt_of_lt_of_le (by simp) hg.size⟩

theorem rsync_off (w : World) (F : Nat → Prop) (g : Nat) (s : St) (h : RDev w F g s) (ho : s.lim = some 0) :
    Calls Try.prog 14 #[.pointer (some ⟨g, 0, none⟩)] w fun e w' => e = .returned (.int .i64 40) ∧ w = w' := by
  have hc := rcall_off w F g s h ho
  clear h
  go_enter Try.func14, Try.ntmps14
  go_wp2_with fail
  refine hc.mono ?_
  rintro e w' ⟨rfl, rfl⟩
  go_wp2
  go_ret
  exact ⟨rfl, rfl⟩

set_option maxRecDepth 20000 in
set_option maxHeartbeats 4000000 in
theorem rsync_c (w : World) (F : Nat → Prop) (g : Nat) (s : St) (h : RDev w F g s) (ho : s.lim ≠ some 0) (hW : s.W.length ≤ 1000000) :
    Calls Try.prog 14 #[.pointer (some ⟨g, 0, none⟩)] w fun e w' => e = .returned (.int .i64 0) ∧ RLeft w w' F g s.sync.dec := by
  have hc := rcall_on w F g s h ho
  have HWl : Hid (s.dec.W.length ≤ 1000000) := hid hW
  have HE : Hid (s.sync.dec = s.dec.sync) := hid rfl
  rw [HE.out]
  generalize s.dec = s1 at *
  clear h ho hW HE
  go_enter Try.func14, Try.ntmps14
  go_wp2_with fail
  refine hc.mono ?_
  rintro e w1 ⟨rfl, F1, ⟨kb, kc, LA, lc, hd⟩, hk1, hF1⟩
  have HK1 := hid hk1
  have HF1 := hid hF1
  obtain ⟨-, x2, -⟩ := hd.cells
  have HG : Hid (RDevAt w1 F1 g { s1 with K := app (s1.W.take 0) s1.K } kb kc LA lc) := hid hd
  clear hc hk1 hF1 hd
  go_wp2_with fail
  go_loopw [15] (fun iv wr => ∃ j : Nat, iv = .int .i64 (j : Int) ∧ Hid (j ≤ s1.W.length) ∧ Hid (RDevAt wr F1 g { s1 with K := app (s1.W.take j) s1.K } kb kc LA lc) ∧ Hid (Kp F1 w1 wr)) (fun iv _ => s1.W.length - (intOf iv).toNat)
  case atStart => exact ⟨0, rfl, hid (Nat.zero_le _), HG, hid (Kp.refl _ _)⟩
  case round =>
    obtain ⟨j, rfl, hj, hG, hP⟩ := hrel
    clear HG x2
    rcases Nat.lt_or_ge j s1.W.length with hlt | hge
    · have HLT := hid hlt
      obtain ⟨lb, rfl, hR⟩ : ∃ lb, LA = some ⟨lb, 0, none⟩ ∧ wr.rangeAt lb (j * 2) [.int .i64 (s1.W[j].1 : Int), .string (str s1.W[j].2)] := hG.out.elem hlt
      have hx : s1.W[j].1 < s1.n ∧ s1.W[j].2.length = 16 := hG.out.ok.W s1.W[j] (List.getElem_mem hlt)
      have htk : s1.W.take (j + 1) = s1.W.take j ++ [(s1.W[j].1, s1.W[j].2)] := List.take_succ_eq_append_getElem hlt
      generalize s1.W[j].1 = i at *
      generalize s1.W[j].2 = l at *
      have HX := hid hx
      have HTK := hid htk
      have HR := hid hR
      obtain ⟨d, hd1, hd2⟩ := Try.undR2
      have HD := hid (And.intro hd1 hd2)
      have HIN : Hid ((Try.prog.info? 68).map (·.size) = some ([Value.int .i64 (i : Int), .string (str l)] : List Value).length) := hid Try.infoR1
      have HT : Hid ((wr.alloc (.cells #[.int .i64 0, .string ⟨#[]⟩] 68)).there wr.heap.size 0 ([Value.int .i64 (i : Int), .string (str l)] : List Value).toArray.size) := hid (z2 wr)
      have HC : Hid (([Value.int .i64 (i : Int), .string (str l)] : List Value).toArray.all (·.oneCell') = true) := hid (all_oneCell_toArray (rc_one (i, l)))
      have HV : Hid (VarR wr ((wr.alloc (.cells #[.int .i64 0, .string ⟨#[]⟩] 68)).setCells wr.heap.size 0 [.int .i64 (i : Int), .string (str l)]) i l) := hid (VarR.of wr i l)
      have j1 : (0 : Int) ≤ (j : Int) := by omega
      have j2 : (j : Int) < (s1.W.length : Int) := by omega
      have j3 : decide ((j : Int) < (s1.W.length : Int)) = true := by simpa using hlt
      have j4 : decide (j < s1.W.length) = true := by simpa using hlt
      have i1 : (0 : Int) ≤ (i : Int) := by omega
      have i2 : (i : Int) < (s1.n : Int) := by have := hx.1; omega
      have wj : wrap64 ((j : Int) + 1) = ((j + 1 : Nat) : Int) := by have := HWl.out; unfold wrap64; omega
      clear hx htk hR hd1 hd2
      generalize hE : ([Value.int .i64 (i : Int), .string (str l)] : List Value) = E at *
      clear hE
      as_aux_lemma =>
      go_wp2_with (first | (refine wpList_load_mid rfl 68 _ rfl lb (j * 2) rfl E d HR.out HD.out.1 HD.out.2 HIN.out ?_) | (refine wpList_store_mid rfl 68 _ _ rfl _ _ E.toArray rfl rfl HT.out HIN.out HC.out ?_))
      simp only [Act.put]
      generalize (wr.alloc (.cells #[.int .i64 0, .string ⟨#[]⟩] 68)).setCells wr.heap.size 0 E = w2 at *
      have HG2 := hid (hG.out.bel HV.out.bel)
      obtain ⟨y0, -, -⟩ := HG2.out.cells
      have y1 := HV.out.c0
      have y2 := HV.out.c1
      have hv1 : Hid (wr.heap.size ≠ kb) := hid (by have := hG.out.F kb hG.out.Fk; omega)
      have HP2 := hid (hP.out.trans (Kp.ofBelow HV.out.bel))
      clear hG HR HT HC HIN HLT hP HD
      refine wp_region_held_drew (S := fun wx => wx.cell? ⟨g, 0, none⟩ = some (.slice (some ⟨kb, 0, none⟩) s1.n kc) ∧ wx.cell? ⟨wr.heap.size, 0, none⟩ = some (.int .i64 (i : Int)) ∧ wx.cell? ⟨wr.heap.size, 1, none⟩ = some (.string (str l))) (by kernel_rfl) ⟨by simpa using y0, by simpa using y1, by simpa using y2⟩ (fun HS => ?_)
      have B3 : Hid (Below w2.heap.size w2 w2.drew) := hid ((Below.refl _ _).drew)
      generalize w2.drew = w3 at *
      obtain ⟨u0, u1⟩ := (HG2.out.bel B3.out).keptCell HX.out.1
      refine wpAnyH_take (i := 0) (oi := ?oi0) (v := ?v0) ?hi0 (by kernel_rfl) (by kernel_rfl) (by kernel_rfl) ?hQ0 ?hy0 HS ?rest0
      case hi0 => simp only [List.getElem?_toArray, List.getElem?_cons_zero]; exact rfl
      case hQ0 => exact fun _ _ _ h => h
      case hy0 =>
        refine Or.inl ⟨by rfl, ?_⟩
        intro wS hSw
        go_simp
        try with_reducible rfl
      try simp only [Act.put, List.setIfInBounds_toArray, List.set_cons_zero, List.set_cons_succ]
      refine wpAnyH_take (i := 1) (oi := ?oi1) (v := ?v1) ?hi1 (by kernel_rfl) (by kernel_rfl) (by kernel_rfl) ?hQ1 ?hy1 HS ?rest1
      case hi1 => simp only [List.getElem?_toArray, List.getElem?_cons_succ, List.getElem?_cons_zero]; exact rfl
      case hQ1 => exact fun _ _ _ h => h
      case hy1 =>
        refine Or.inl ⟨by rfl, ?_⟩
        intro wS hSw
        go_simp
        try with_reducible rfl
      try simp only [Act.put, List.setIfInBounds_toArray, List.set_cons_zero, List.set_cons_succ]
      refine wpAnyH_take (i := 2) (oi := ?oi2) (v := ?v2) ?hi2 (by kernel_rfl) (by kernel_rfl) (by kernel_rfl) ?hQ2 ?hy2 HS ?rest2
      case hi2 => simp only [List.getElem?_toArray, List.getElem?_cons_succ, List.getElem?_cons_zero]; exact rfl
      case hQ2 => exact fun _ _ _ h => h
      case hy2 =>
        refine Or.inl ⟨by rfl, ?_⟩
        intro wS hSw
        go_simp
        try with_reducible rfl
      try simp only [Act.put, List.setIfInBounds_toArray, List.set_cons_zero, List.set_cons_succ]
      refine wpAnyH_take (i := 3) (oi := ?oi3) (v := ?v3) ?hi3 (by kernel_rfl) (by kernel_rfl) (by kernel_rfl) ?hQ3 ?hy3 HS ?rest3
      case hi3 => simp only [List.getElem?_toArray, List.getElem?_cons_succ, List.getElem?_cons_zero]; exact rfl
      case hQ3 => exact fun _ _ _ h => h
      case hy3 =>
        refine Or.inl ⟨by rfl, ?_⟩
        intro wS hSw
        obtain ⟨z0, z1, z2⟩ := hSw
        go_simp
        try with_reducible rfl
      try simp only [Act.put, List.setIfInBounds_toArray, List.set_cons_zero, List.set_cons_succ]
      refine wpAnyH_take (i := 4) (oi := ?oi4) (v := ?v4) ?hi4 (by kernel_rfl) (by kernel_rfl) (by kernel_rfl) ?hQ4 ?hy4 HS ?rest4
      case hi4 => simp only [List.getElem?_toArray, List.getElem?_cons_succ, List.getElem?_cons_zero]; exact rfl
      case hQ4 => exact fun _ _ _ h => h
      case hy4 =>
        refine Or.inl ⟨by rfl, ?_⟩
        intro wS hSw
        go_simp
        try with_reducible rfl
      try simp only [Act.put, List.setIfInBounds_toArray, List.set_cons_zero, List.set_cons_succ]
      refine wpAnyH_take (i := 5) (oi := ?oi5) (v := ?v5) ?hi5 (by kernel_rfl) (by kernel_rfl) (by kernel_rfl) ?hQ5 ?hy5 HS ?rest5
      case hi5 => simp only [List.getElem?_toArray, List.getElem?_cons_succ, List.getElem?_cons_zero]; exact rfl
      case hQ5 => exact fun _ _ _ h => h
      case hy5 =>
        refine Or.inl ⟨by rfl, ?_⟩
        intro wS hSw
        obtain ⟨z0, z1, z2⟩ := hSw
        go_simp
        try with_reducible rfl
      try simp only [Act.put, List.setIfInBounds_toArray, List.set_cons_zero, List.set_cons_succ]
      refine wpAnyH_take (i := 6) (oi := ?oi6) (v := ?v6) ?hi6 (by kernel_rfl) (by kernel_rfl) (by kernel_rfl) ?hQ6 ?hy6 HS ?rest6
      case hi6 => simp only [List.getElem?_toArray, List.getElem?_cons_succ, List.getElem?_cons_zero]; exact rfl
      case hQ6 => exact fun _ _ _ h => h
      case hy6 =>
        refine Or.inl ⟨by rfl, ?_⟩
        intro wS hSw
        go_simp
        try with_reducible rfl
      try simp only [Act.put, List.setIfInBounds_toArray, List.set_cons_zero, List.set_cons_succ]
      refine wpAnyH_take (i := 7) (oi := ?oi7) (v := ?v7) ?hi7 (by kernel_rfl) (by kernel_rfl) (by kernel_rfl) ?hQ7 ?hy7 HS ?rest7
      case hi7 => simp only [List.getElem?_toArray, List.getElem?_cons_succ, List.getElem?_cons_zero]; exact rfl
      case hQ7 => exact fun _ _ _ h => h
      case hy7 =>
        refine Or.inl ⟨by rfl, ?_⟩
        intro wS hSw
        obtain ⟨z0, z1, z2⟩ := hSw
        go_simp
        try with_reducible rfl
      try simp only [Act.put, List.setIfInBounds_toArray, List.set_cons_zero, List.set_cons_succ]
      refine wpAnyH_take (i := 8) (oi := ?oi8) (v := ?v8) ?hi8 (by kernel_rfl) (by kernel_rfl) (by kernel_rfl) ?hQ8 ?hy8 HS ?rest8
      case hi8 => simp only [List.getElem?_toArray, List.getElem?_cons_succ, List.getElem?_cons_zero]; exact rfl
      case hQ8 => exact fun _ _ _ h => h
      case hy8 =>
        refine Or.inl ⟨by rfl, ?_⟩
        intro wS hSw
        go_simp
        try with_reducible rfl
      try simp only [Act.put, List.setIfInBounds_toArray, List.set_cons_zero, List.set_cons_succ]
      refine wpAnyH_ready (rs := [9]) (by kernel_rfl) (by simp) ?_
      refine AllReadyH.cons (o := ?o9) ?ho9 (fun K hK => ?step9) AllReadyH.nil
      case ho9 => simp only [List.getElem?_toArray, List.getElem?_cons_succ, List.getElem?_cons_zero]; exact rfl
      rw [if_pos (by rfl)]
      go_simp
      refine hK.out _ _ ⟨by have h0 := ((HG2.out.bel B3.out).setK (i := i) HX.out.2).cells.1; simpa using h0, (World.cell?_of_block ((grown_setCell w3 kb i _).block wr.heap.size (by have := HV.out.lt; have := B3.out.size; omega) (by simpa using hv1.out))).trans HS.2.1, (World.cell?_of_block ((grown_setCell w3 kb i _).block wr.heap.size (by have := HV.out.lt; have := B3.out.size; omega) (by simpa using hv1.out))).trans HS.2.2⟩ (fun HS => ?_)
      clear hK K
      try simp only [Act.put]
      refine wpAnyH_done (by kernel_rfl) ?_ _
      have hG4 : RDevAt (w3.setCell ⟨kb, i, none⟩ (.string (str l))) F1 g { s1 with K := app (s1.W.take (j + 1)) s1.K } kb kc (some ⟨lb, 0, none⟩) lc := by
        rw [HTK.out, app_snoc]
        exact (HG2.out.bel B3.out).setK HX.out.2
      have hP4 : Kp F1 w1 (w3.setCell ⟨kb, i, none⟩ (.string (str l))) := (HP2.out.trans (Kp.ofBelow B3.out)).trans (Kp.setCell _ _ _ _ HG2.out.Fk)
      clear HS y0 y1 y2 HV HG2 u0 u1
      generalize w3.setCell ⟨kb, i, none⟩ (.string (str l)) = w4 at *
      have HG4 := hid hG4
      have HP4 := hid hP4
      clear hG4 hP4
      go_wp2
      exact ⟨⟨j + 1, congrArg (Value.int .i64) wj, hid hlt, HG4, HP4⟩, by rw [wj]; simp [intOf]; omega⟩
    · have HJ : Hid (j = s1.W.length) := hid (by have := hj.out; omega)
      have j3 : decide ((j : Int) < (s1.W.length : Int)) = false := by simp; omega
      have j4 : decide (j < s1.W.length) = false := by simp; omega
      have f1 := hG.out.blk.frozen 1
      obtain ⟨-, y2, -⟩ := hG.out.cells
      have HN : Hid (RLeft w1 (wr.setCell ⟨g, 1, none⟩ (.slice none 0 0)) F1 g s1.sync) := hid (by
        have hG' := hG.out
        rw [HJ.out, List.take_length] at hG'
        exact ⟨F1, ⟨kb, kc, none, 0, hG'.nilL⟩, hP.out.trans (Kp.setCell _ _ _ _ hG'.Fg), fun j hj => .inl hj⟩)
      clear hG hP hj hge
      go_wp2
      go_ret
      exact ⟨rfl, RLeft.after HK1.out HF1.out HN.out⟩
end Go.Proofs.Ytdgcoipflenlgaa
