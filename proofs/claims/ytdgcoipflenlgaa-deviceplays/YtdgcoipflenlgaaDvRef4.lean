/- The document's device: Crash, Overwrite. -/
import Derived.Test.YtdgcoipflenlgaaDvRef3
namespace Go.Proofs.Ytdgcoipflenlgaa
open Go.RowKit

set_option maxRecDepth 20000 in
set_option maxHeartbeats 8000000 in
theorem rcrash_c (w1 : World) (F1 : Nat → Prop) (g : Nat) (s1 : St) (h : RDev w1 F1 g s1) (KA : Option Addr) (kn kq : Nat) (keep : List Bool) (hk : Lst w1 0 w1.heap.size KA kn (keep.map .bool)) (hA : 0 < kn → ∀ u, KA.map (·.block) = some u → ¬ F1 u) (hW : s1.W.length ≤ 1000000) :
    Calls Try.prog 20 #[.pointer (some ⟨g, 0, none⟩), .slice KA kn kq] w1 fun e w' => e = .returned (.tuple #[]) ∧ RLeft w1 w' F1 g (s1.crash keep) := by
  have HWl := hid hW
  have HKP := hid (fun wx (hx : Kp F1 w1 wx) => hk.kp hx hA)
  have hlk : keep.length = kn := by have := hk.len; simpa using this
  have HLK := hid hlk
  obtain ⟨kb, kc, LA, lc, hd⟩ := h
  obtain ⟨-, x2, -⟩ := hd.cells
  have HG : Hid (RDevAt w1 F1 g { s1 with K := app (ke (s1.W.take 0) keep) s1.K } kb kc LA lc) := hid hd
  clear hd hk hA hW hlk
  go_enter Try.func20, Try.ntmps20
  go_wp2_with fail
  go_loopw [11] (fun iv wr => ∃ j : Nat, iv = .int .i64 (j : Int) ∧ Hid (j ≤ s1.W.length) ∧ Hid (RDevAt wr F1 g { s1 with K := app (ke (s1.W.take j) keep) s1.K } kb kc LA lc) ∧ Hid (Kp F1 w1 wr)) (fun iv _ => s1.W.length - (intOf iv).toNat)
  case atStart => exact ⟨0, rfl, hid (Nat.zero_le _), HG, hid (Kp.refl _ _)⟩
  case round =>
    obtain ⟨j, rfl, hj, hG, hP⟩ := hrel
    clear HG x2
    rcases Nat.lt_or_ge j s1.W.length with hlt | hge
    · have HLT := hid hlt
      have hlj : Hid ((s1.W.take j).length = j) := hid (by simp; omega)
      obtain ⟨lb, rfl, hR⟩ : ∃ lb, LA = some ⟨lb, 0, none⟩ ∧ wr.rangeAt lb (j * 2) [.int .i64 (s1.W[j].1 : Int), .string (str s1.W[j].2)] := hG.out.elem hlt
      have hx : s1.W[j].1 < s1.n ∧ s1.W[j].2.length = 16 := hG.out.ok.W s1.W[j] (List.getElem_mem hlt)
      have htk : s1.W.take (j + 1) = s1.W.take j ++ [(s1.W[j].1, s1.W[j].2)] := List.take_succ_eq_append_getElem hlt
      generalize s1.W[j].1 = i at *
      generalize s1.W[j].2 = l at *
      have HX := hid hx
      have HTK := hid htk
      have HR := hid hR
      obtain ⟨d, hd1, hd2⟩ := Try.undR2
      have HD := hid (And.intro hd1 hd2)
      have HIN : Hid ((Try.prog.info? 68).map (·.size) = some ([Value.int .i64 (i : Int), .string (str l)] : List Value).length) := hid Try.infoR1
      have HT : Hid ((wr.alloc (.cells #[.int .i64 0, .string ⟨#[]⟩] 68)).there wr.heap.size 0 ([Value.int .i64 (i : Int), .string (str l)] : List Value).toArray.size) := hid (z2 wr)
      have HC : Hid (([Value.int .i64 (i : Int), .string (str l)] : List Value).toArray.all (·.oneCell') = true) := hid (all_oneCell_toArray (rc_one (i, l)))
      have HV : Hid (VarR wr ((wr.alloc (.cells #[.int .i64 0, .string ⟨#[]⟩] 68)).setCells wr.heap.size 0 [.int .i64 (i : Int), .string (str l)]) i l) := hid (VarR.of wr i l)
      have j1 : (0 : Int) ≤ (j : Int) := by omega
      have j2 : (j : Int) < (s1.W.length : Int) := by omega
      have j3 : decide ((j : Int) < (s1.W.length : Int)) = true := by simpa using hlt
      have j4 : decide (j < s1.W.length) = true := by simpa using hlt
      have i1 : (0 : Int) ≤ (i : Int) := by omega
      have i2 : (i : Int) < (s1.n : Int) := by have := hx.1; omega
      have wj : wrap64 ((j : Int) + 1) = ((j + 1 : Nat) : Int) := by have := HWl.out; unfold wrap64; omega
      clear hx htk hR hd1 hd2
      generalize hE : ([Value.int .i64 (i : Int), .string (str l)] : List Value) = E at *
      clear hE
      as_aux_lemma =>
      go_upto_region 3 with (first | (refine wpList_load_mid rfl 68 _ rfl lb (j * 2) rfl E d HR.out HD.out.1 HD.out.2 HIN.out ?_) | (refine wpList_store_mid rfl 68 _ _ rfl _ _ E.toArray rfl rfl HT.out HIN.out HC.out ?_))
      simp only [Act.put]
      generalize (wr.alloc (.cells #[.int .i64 0, .string ⟨#[]⟩] 68)).setCells wr.heap.size 0 E = w2 at *
      have HG2 := hid (hG.out.bel HV.out.bel)
      have hv1 : Hid (wr.heap.size ≠ kb) := hid (by have := hG.out.F kb hG.out.Fk; omega)
      have HP2 := hid (hP.out.trans (Kp.ofBelow HV.out.bel))
      have HLs := hid (HKP.out w2 HP2.out)
      clear hG HR HT HC HIN hP HD HKP
      rcases Nat.lt_or_ge j kn with hjk | hjk
      · obtain ⟨qb, qo, rfl, -, -, hcell⟩ := HLs.out.2 (by omega)
        have hjl : j < keep.length := by rw [HLK.out]; exact hjk
        have yk : w2.cell? ⟨qb, qo + j, none⟩ = some (.bool keep[j]) := hcell j _ (by rw [List.getElem?_map, List.getElem?_eq_getElem hjl]; rfl)
        have ek : keep[j]? = some keep[j] := List.getElem?_eq_getElem hjl
        have k2 : (j : Int) < (kn : Int) := by omega
        have k3 : decide ((j : Int) < (kn : Int)) = true := by simpa using hjk
        have k4 : decide (j < kn) = true := by simpa using hjk
        generalize keep[j] = kt at *
        have EK := hid ek
        clear hcell HLs ek
        cases kt
        · have EN : Hid (¬ keep[j]? = some true) := hid (by rw [EK.out]; decide)
          have HG4 : Hid (RDevAt w2 F1 g { s1 with K := app (ke (s1.W.take (j + 1)) keep) s1.K } kb kc (some ⟨lb, 0, none⟩) lc) := hid (by
            rw [HTK.out, ke_snoc, if_neg (by rw [hlj.out]; exact EN.out), List.append_nil]
            exact HG2.out)
          clear HG2 HV
          go_wp2
          exact ⟨⟨j + 1, congrArg (Value.int .i64) wj, hid hlt, HG4, HP2⟩, by rw [wj]; simp [intOf]; omega⟩
        · obtain ⟨y0, -, -⟩ := HG2.out.cells
          have y1 := HV.out.c0
          have y2 := HV.out.c1
          go_wp2_with fail
          refine wp_region_held_drew (S := fun wx => wx.cell? ⟨g, 0, none⟩ = some (.slice (some ⟨kb, 0, none⟩) s1.n kc) ∧ wx.cell? ⟨wr.heap.size, 0, none⟩ = some (.int .i64 (i : Int)) ∧ wx.cell? ⟨wr.heap.size, 1, none⟩ = some (.string (str l))) (by kernel_rfl) ⟨by simpa using y0, by simpa using y1, by simpa using y2⟩ (fun HS => ?_)
          have B3 : Hid (Below w2.heap.size w2 w2.drew) := hid ((Below.refl _ _).drew)
          generalize w2.drew = w3 at *
          obtain ⟨u0, u1⟩ := (HG2.out.bel B3.out).keptCell HX.out.1
          refine wpAnyH_take (i := 0) (oi := ?oi0) (v := ?v0) ?hi0 (by kernel_rfl) (by kernel_rfl) (by kernel_rfl) ?hQ0 ?hy0 HS ?rest0
          case hi0 => simp only [List.getElem?_toArray, List.getElem?_cons_zero]; exact rfl
          case hQ0 => exact fun _ _ _ h => h
          case hy0 =>
            refine Or.inl ⟨by rfl, ?_⟩
            intro wS hSw
            go_simp
            try with_reducible rfl
          try simp only [Act.put, List.setIfInBounds_toArray, List.set_cons_zero, List.set_cons_succ]
          refine wpAnyH_take (i := 1) (oi := ?oi1) (v := ?v1) ?hi1 (by kernel_rfl) (by kernel_rfl) (by kernel_rfl) ?hQ1 ?hy1 HS ?rest1
          case hi1 => simp only [List.getElem?_toArray, List.getElem?_cons_succ, List.getElem?_cons_zero]; exact rfl
          case hQ1 => exact fun _ _ _ h => h
          case hy1 =>
            refine Or.inl ⟨by rfl, ?_⟩
            intro wS hSw
            go_simp
            try with_reducible rfl
          try simp only [Act.put, List.setIfInBounds_toArray, List.set_cons_zero, List.set_cons_succ]
          refine wpAnyH_take (i := 2) (oi := ?oi2) (v := ?v2) ?hi2 (by kernel_rfl) (by kernel_rfl) (by kernel_rfl) ?hQ2 ?hy2 HS ?rest2
          case hi2 => simp only [List.getElem?_toArray, List.getElem?_cons_succ, List.getElem?_cons_zero]; exact rfl
          case hQ2 => exact fun _ _ _ h => h
          case hy2 =>
            refine Or.inl ⟨by rfl, ?_⟩
            intro wS hSw
            go_simp
            try with_reducible rfl
          try simp only [Act.put, List.setIfInBounds_toArray, List.set_cons_zero, List.set_cons_succ]
          refine wpAnyH_take (i := 3) (oi := ?oi3) (v := ?v3) ?hi3 (by kernel_rfl) (by kernel_rfl) (by kernel_rfl) ?hQ3 ?hy3 HS ?rest3
          case hi3 => simp only [List.getElem?_toArray, List.getElem?_cons_succ, List.getElem?_cons_zero]; exact rfl
          case hQ3 => exact fun _ _ _ h => h
          case hy3 =>
            refine Or.inl ⟨by rfl, ?_⟩
            intro wS hSw
            obtain ⟨z0, z1, z2⟩ := hSw
            go_simp
            try with_reducible rfl
          try simp only [Act.put, List.setIfInBounds_toArray, List.set_cons_zero, List.set_cons_succ]
          refine wpAnyH_take (i := 4) (oi := ?oi4) (v := ?v4) ?hi4 (by kernel_rfl) (by kernel_rfl) (by kernel_rfl) ?hQ4 ?hy4 HS ?rest4
          case hi4 => simp only [List.getElem?_toArray, List.getElem?_cons_succ, List.getElem?_cons_zero]; exact rfl
          case hQ4 => exact fun _ _ _ h => h
          case hy4 =>
            refine Or.inl ⟨by rfl, ?_⟩
            intro wS hSw
            go_simp
            try with_reducible rfl
          try simp only [Act.put, List.setIfInBounds_toArray, List.set_cons_zero, List.set_cons_succ]
          refine wpAnyH_take (i := 5) (oi := ?oi5) (v := ?v5) ?hi5 (by kernel_rfl) (by kernel_rfl) (by kernel_rfl) ?hQ5 ?hy5 HS ?rest5
          case hi5 => simp only [List.getElem?_toArray, List.getElem?_cons_succ, List.getElem?_cons_zero]; exact rfl
          case hQ5 => exact fun _ _ _ h => h
          case hy5 =>
            refine Or.inl ⟨by rfl, ?_⟩
            intro wS hSw
            obtain ⟨z0, z1, z2⟩ := hSw
            go_simp
            try with_reducible rfl
          try simp only [Act.put, List.setIfInBounds_toArray, List.set_cons_zero, List.set_cons_succ]
          refine wpAnyH_take (i := 6) (oi := ?oi6) (v := ?v6) ?hi6 (by kernel_rfl) (by kernel_rfl) (by kernel_rfl) ?hQ6 ?hy6 HS ?rest6
          case hi6 => simp only [List.getElem?_toArray, List.getElem?_cons_succ, List.getElem?_cons_zero]; exact rfl
          case hQ6 => exact fun _ _ _ h => h
          case hy6 =>
            refine Or.inl ⟨by rfl, ?_⟩
            intro wS hSw
            go_simp
            try with_reducible rfl
          try simp only [Act.put, List.setIfInBounds_toArray, List.set_cons_zero, List.set_cons_succ]
          refine wpAnyH_take (i := 7) (oi := ?oi7) (v := ?v7) ?hi7 (by kernel_rfl) (by kernel_rfl) (by kernel_rfl) ?hQ7 ?hy7 HS ?rest7
          case hi7 => simp only [List.getElem?_toArray, List.getElem?_cons_succ, List.getElem?_cons_zero]; exact rfl
          case hQ7 => exact fun _ _ _ h => h
          case hy7 =>
            refine Or.inl ⟨by rfl, ?_⟩
            intro wS hSw
            obtain ⟨z0, z1, z2⟩ := hSw
            go_simp
            try with_reducible rfl
          try simp only [Act.put, List.setIfInBounds_toArray, List.set_cons_zero, List.set_cons_succ]
          refine wpAnyH_take (i := 8) (oi := ?oi8) (v := ?v8) ?hi8 (by kernel_rfl) (by kernel_rfl) (by kernel_rfl) ?hQ8 ?hy8 HS ?rest8
          case hi8 => simp only [List.getElem?_toArray, List.getElem?_cons_succ, List.getElem?_cons_zero]; exact rfl
          case hQ8 => exact fun _ _ _ h => h
          case hy8 =>
            refine Or.inl ⟨by rfl, ?_⟩
            intro wS hSw
            go_simp
            try with_reducible rfl
          try simp only [Act.put, List.setIfInBounds_toArray, List.set_cons_zero, List.set_cons_succ]
          refine wpAnyH_ready (rs := [9]) (by kernel_rfl) (by simp) ?_
          refine AllReadyH.cons (o := ?o9) ?ho9 (fun K hK => ?step9) AllReadyH.nil
          case ho9 => simp only [List.getElem?_toArray, List.getElem?_cons_succ, List.getElem?_cons_zero]; exact rfl
          rw [if_pos (by rfl)]
          go_simp
          refine hK.out _ _ ⟨by have h0 := ((HG2.out.bel B3.out).setK (i := i) HX.out.2).cells.1; simpa using h0, (World.cell?_of_block ((grown_setCell w3 kb i _).block wr.heap.size (by have := HV.out.lt; have := B3.out.size; omega) (by simpa using hv1.out))).trans HS.2.1, (World.cell?_of_block ((grown_setCell w3 kb i _).block wr.heap.size (by have := HV.out.lt; have := B3.out.size; omega) (by simpa using hv1.out))).trans HS.2.2⟩ (fun HS => ?_)
          clear hK K
          try simp only [Act.put]
          refine wpAnyH_done (by kernel_rfl) ?_ _
          have hG4 : RDevAt (w3.setCell ⟨kb, i, none⟩ (.string (str l))) F1 g { s1 with K := app (ke (s1.W.take (j + 1)) keep) s1.K } kb kc (some ⟨lb, 0, none⟩) lc := by
            rw [HTK.out, ke_snoc, if_pos (by rw [hlj.out]; exact EK.out), app_snoc]
            exact (HG2.out.bel B3.out).setK HX.out.2
          have hP4 : Kp F1 w1 (w3.setCell ⟨kb, i, none⟩ (.string (str l))) := (HP2.out.trans (Kp.ofBelow B3.out)).trans (Kp.setCell _ _ _ _ HG2.out.Fk)
          clear HS y0 y1 y2 HV HG2 u0 u1 yk
          generalize w3.setCell ⟨kb, i, none⟩ (.string (str l)) = w4 at *
          have HG4 := hid hG4
          have HP4 := hid hP4
          clear hG4 hP4
          go_wp2
          exact ⟨⟨j + 1, congrArg (Value.int .i64) wj, hid hlt, HG4, HP4⟩, by rw [wj]; simp [intOf]; omega⟩
      · have k3 : decide ((j : Int) < (kn : Int)) = false := by simp; omega
        have k4 : decide (j < kn) = false := by simp; omega
        have EN : Hid (¬ keep[j]? = some true) := hid (by rw [List.getElem?_eq_none (by rw [HLK.out]; exact hjk)]; simp)
        have HG4 : Hid (RDevAt w2 F1 g { s1 with K := app (ke (s1.W.take (j + 1)) keep) s1.K } kb kc (some ⟨lb, 0, none⟩) lc) := hid (by
          rw [HTK.out, ke_snoc, if_neg (by rw [hlj.out]; exact EN.out), List.append_nil]
          exact HG2.out)
        clear HG2 HV HLs
        go_wp2
        exact ⟨⟨j + 1, congrArg (Value.int .i64) wj, hid hlt, HG4, HP2⟩, by rw [wj]; simp [intOf]; omega⟩
    · have HJ : Hid (j = s1.W.length) := hid (by have := hj.out; omega)
      have j3 : decide ((j : Int) < (s1.W.length : Int)) = false := by simp; omega
      have j4 : decide (j < s1.W.length) = false := by simp; omega
      have f1 := hG.out.blk.frozen 1
      have f2 := hG.out.blk.frozen 2
      obtain ⟨-, y1, y2⟩ := hG.out.cells
      have HN : Hid (RLeft w1 ((wr.setCell ⟨g, 1, none⟩ (.slice none 0 0)).setCell ⟨g, 2, none⟩ (.int .i64 (-1))) F1 g (s1.crash keep)) := hid (by
        have hG' := hG.out
        rw [HJ.out, List.take_length] at hG'
        exact RLeft.after (hP.out.trans (Kp.setCell _ _ _ _ hG'.Fg)) (fun j hj => .inl hj) (hG'.nilL.lim none (fun d hd => by cases hd)))
      generalize rl _ = RR at y2
      clear hG hP hj hge
      go_wp2
      go_end0
      exact ⟨rfl, HN.out⟩

/-- A new row of writes laid into the document's device, which row of blocks it has. -/
theorem RDevAt.setL' {w w7 : World} {F : Nat → Prop} {g : Nat} {s : St} {kb kc lc : Nat} {LA : Option Addr} (h : RDevAt w F g s kb kc LA lc) (W : Wr) (hW : ∀ x ∈ W, x.1 < s.n ∧ x.2.length = 16) {A : Option Addr} {c : Nat}
    (ho : w7.ownsRow 0 68 2 (.slice A W.length c) W.length (rcs W)) (hb : Below w.heap.size w w7) (hA : ∀ b, A.map (·.block) = some b → w.heap.size ≤ b) :
    RDevAt (w7.setCell ⟨g, 1, none⟩ (.slice A W.length c)) (fun j => F j ∨ (w.heap.size ≤ j ∧ j < w7.heap.size)) g { s with W := W } kb kc A c ∧ Kp F w (w7.setCell ⟨g, 1, none⟩ (.slice A W.length c)) ∧ F kb := by
  have hg := grown_setCell w7 g 1 (.slice A W.length c)
  have lt : ∀ j, F j → j < w7.heap.size := fun j hj => Nat.lt_of_lt_of_le (h.F j hj) hb.size
  have nb : ∀ b, A.map (·.block) = some b → b ≠ g ∧ b ≠ kb := fun b hb' => by
    have h1 := hA b hb'
    have h2 := h.F g h.Fg
    have h3 := h.F kb h.Fk
    omega
  refine ⟨⟨?_, ?_, ?_, h.gk, .inl h.Fk, fun b hb' => ⟨(nb b hb').1, (nb b hb').2, .inr ⟨hA b hb', own_lt ho b hb'⟩⟩, .inl h.Fg, fun j hj => ?_, ⟨h.ok.n1, h.ok.n2, h.ok.K, hW, h.ok.lim⟩⟩, (Kp.ofBelow hb).trans (Kp.setCell w7 g 1 _ h.Fg), h.Fk⟩
  · exact (h.blk.keep (hb.block g (h.F g h.Fg))).store 1 _
  · have k1 := own_keep (w' := w7) h.kept fun b hb' => (by simp at hb'; subst hb'; exact hb.block kb (h.F kb h.Fk))
    exact own_keep k1 fun b hb' => (by simp at hb'; subst hb'; exact hg.block kb (lt kb h.Fk) (by simpa using h.gk))
  · exact own_keep ho fun b hb' => hg.block b (own_lt ho b hb') (by simpa using (nb b hb').1)
  · have := hg.size
    rcases hj with e | e
    · have := lt j e; omega
    · omega

theorem rover_bad (w : World) (F : Nat → Prop) (g : Nat) (s : St) (h : RDev w F g s) (i : Int) (l : List UInt8) (hb : bad s i l.length) :
    Calls Try.prog 22 #[.pointer (some ⟨g, 0, none⟩), .int .i64 i, .string (str l)] w fun e w' => e = .returned (.int .i64 2) ∧ w = w' := by
  have hr := rright_c w F g s h i l
  rw [show decide (bad s i l.length) = true from decide_eq_true hb] at hr
  clear h hb
  go_enter Try.func22, Try.ntmps22
  go_wp2_with fail
  refine hr.mono ?_
  rintro e w' ⟨rfl, rfl⟩
  go_wp2
  go_ret
  exact ⟨rfl, rfl⟩

set_option maxRecDepth 20000 in
set_option maxHeartbeats 8000000 in
theorem rover_c (w1 : World) (F1 : Nat → Prop) (g : Nat) (s1 : St) (h : RDev w1 F1 g s1) (i : Nat) (hi : i < s1.n) (l : List UInt8) (hl : l.length ≤ 16) (hW : s1.W.length ≤ 100000) :
    Calls Try.prog 22 #[.pointer (some ⟨g, 0, none⟩), .int .i64 (i : Int), .string (str l)] w1 fun e w' => e = .returned (.int .i64 0) ∧ RLeft w1 w' F1 g (s1.over i l) := by
  have hr := rright_c w1 F1 g s1 h i l
  rw [show decide (bad s1 i l.length) = false from decide_eq_false (by unfold bad; omega)] at hr
  have HI := hid hi
  have HL := hid hl
  have HWl := hid hW
  have i1 : (0 : Int) ≤ (i : Int) := by omega
  have i2 : (i : Int) < (s1.n : Int) := by omega
  obtain ⟨kb, kc, LA, lc, hd⟩ := h
  obtain ⟨-, x1, -⟩ := hd.cells
  have HG := hid hd
  clear hd hi hl hW
  go_enter Try.func22, Try.ntmps22
  go_wp2_with fail
  refine hr.mono ?_
  rintro e w' ⟨rfl, rfl⟩
  clear hr
  go_wp2_with fail
  go_loopw [20, 7] (fun iv rv wr => ∃ (j : Nat) (A : Option Addr) (c : Nat), iv = .int .i64 (j : Int) ∧ rv = .slice A (fil (s1.W.take j) i).length c ∧ Hid (j ≤ s1.W.length) ∧ Hid (wr.ownsRow 0 68 2 (.slice A (fil (s1.W.take j) i).length c) (fil (s1.W.take j) i).length (rcs (fil (s1.W.take j) i))) ∧ Hid (Below w1.heap.size w1 wr) ∧ Hid (∀ b, A.map (·.block) = some b → w1.heap.size ≤ b)) (fun iv _ _ => s1.W.length - (intOf iv).toNat)
  case atStart => exact ⟨0, none, 0, rfl, rfl, hid (Nat.zero_le _), hid ⟨rfl, .inl ⟨rfl, rfl⟩⟩, hid (Below.refl _ _), hid (fun b hb => by cases hb)⟩
  case round =>
    obtain ⟨j, A, c, rfl, rfl, hj, hO, hB, hA⟩ := hrel
    clear x1
    rcases Nat.lt_or_ge j s1.W.length with hlt | hge
    · have HLT := hid hlt
      obtain ⟨lb, hLA, hR⟩ : ∃ lb, LA = some ⟨lb, 0, none⟩ ∧ wr.rangeAt lb (j * 2) [.int .i64 (s1.W[j].1 : Int), .string (str s1.W[j].2)] := (HG.out.bel hB.out).elem hlt
      have HSN := hid (fil_snoc (s1.W.take j) i s1.W[j])
      have HTK : Hid (s1.W.take (j + 1) = s1.W.take j ++ [s1.W[j]]) := hid (List.take_succ_eq_append_getElem hlt)
      have HLE : Hid ((fil (s1.W.take j) i).length ≤ 100000) := hid (by have := fil_len (s1.W.take j) i; have := HWl.out; simp at *; omega)
      generalize s1.W[j] = x at *
      have HR := hid hR
      obtain ⟨d, hd1, hd2⟩ := Try.undR2
      have HD := hid (And.intro hd1 hd2)
      have HIN : Hid ((Try.prog.info? 68).map (·.size) = some ([Value.int .i64 (x.1 : Int), .string (str x.2)] : List Value).length) := hid Try.infoR1
      have HT : Hid ((wr.alloc (.cells #[.int .i64 0, .string ⟨#[]⟩] 68)).there wr.heap.size 0 ([Value.int .i64 (x.1 : Int), .string (str x.2)] : List Value).toArray.size) := hid (z2 wr)
      have HC : Hid (([Value.int .i64 (x.1 : Int), .string (str x.2)] : List Value).toArray.all (·.oneCell') = true) := hid (all_oneCell_toArray (rc_one x))
      have HV : Hid (VarR wr ((wr.alloc (.cells #[.int .i64 0, .string ⟨#[]⟩] 68)).setCells wr.heap.size 0 [.int .i64 (x.1 : Int), .string (str x.2)]) x.1 x.2) := hid (VarR.of wr x.1 x.2)
      have j1 : (0 : Int) ≤ (j : Int) := by omega
      have j2 : (j : Int) < (s1.W.length : Int) := by omega
      have j3 : decide ((j : Int) < (s1.W.length : Int)) = true := by simpa using hlt
      have j4 : decide (j < s1.W.length) = true := by simpa using hlt
      have wj : wrap64 ((j : Int) + 1) = ((j + 1 : Nat) : Int) := by have := HWl.out; unfold wrap64; omega
      subst hLA
      clear hR hd1 hd2
      generalize hE : ([Value.int .i64 (x.1 : Int), .string (str x.2)] : List Value) = E at *
      clear hE
      as_aux_lemma =>
      go_upto_region 7 with (first | (refine wpList_load_mid rfl 68 _ rfl lb (j * 2) rfl E d HR.out HD.out.1 HD.out.2 HIN.out ?_) | (refine wpList_store_mid rfl 68 _ _ rfl _ _ E.toArray rfl rfl HT.out HIN.out HC.out ?_))
      simp only [Act.put]
      generalize (wr.alloc (.cells #[.int .i64 0, .string ⟨#[]⟩] 68)).setCells wr.heap.size 0 E = w2 at *
      have y1 := HV.out.c0
      have y2 := HV.out.c1
      have HB2 : Hid (Below w1.heap.size w1 w2) := hid (hB.out.trans (HV.out.bel.mono hB.out.size))
      have HO2 := hid (own_keep (w' := w2) hO.out fun b hb => HV.out.bel.block b (own_lt hO.out b hb))
      clear hO hB HR HT HC HIN HD
      by_cases hxi : x.1 = i
      · have e1 : ((x.1 : Int) != (i : Int)) = false := by simp [hxi]
        have e2 : ((x.1 : Int) == (i : Int)) = true := by simp [hxi]
        have HF : Hid (fil (s1.W.take (j + 1)) i = fil (s1.W.take j) i) := hid (by rw [HTK.out, HSN.out, if_pos hxi, List.append_nil])
        clear hxi HV y2
        generalize x.1 = xi at *
        generalize fil (s1.W.take j) i = V at *
        go_wp2
        exact ⟨⟨j + 1, A, c, congrArg (Value.int .i64) wj, by rw [HF.out], hid hlt, by rw [HF.out]; exact HO2, HB2, hA⟩, by rw [wj]; simp [intOf]; omega⟩
      · have e1 : ((x.1 : Int) != (i : Int)) = true := by simp; omega
        have e2 : ((x.1 : Int) == (i : Int)) = false := by simp; omega
        have HF : Hid (fil (s1.W.take (j + 1)) i = fil (s1.W.take j) i ++ [x]) := hid (by rw [HTK.out, HSN.out, if_neg hxi])
        have B3 : Hid (Below w2.heap.size w2 (w2.alloc (.cells #[.int .i64 (x.1 : Int), .string (str x.2)] 68))) := hid ((Below.refl _ _).alloc (Nat.le_refl _) _)
        have O3 := hid (own_keep (w' := w2.alloc (.cells #[.int .i64 (x.1 : Int), .string (str x.2)] 68)) HO2.out fun b hb => B3.out.block b (own_lt HO2.out b hb))
        have R3 : Hid ((w2.alloc (.cells #[.int .i64 (x.1 : Int), .string (str x.2)] 68)).rangeAt w2.heap.size 0 (rc x)) := hid (fun j v hv => by
          rw [(Blk.new w2 68 #[.int .i64 (x.1 : Int), .string (str x.2)]).cell, Nat.zero_add]
          rw [show (#[.int .i64 (x.1 : Int), .string (str x.2)] : Array Value) = (rc x).toArray from rfl, List.getElem?_toArray]
          exact hv)
        have hs3 : (w2.alloc (.cells #[.int .i64 (x.1 : Int), .string (str x.2)] 68)).heap.size = w2.heap.size + 1 := by simp
        have RC := hid (rc_one x)
        have RL : Hid ((rc x).length = 1 * 2) := hid rfl
        have HAP : Hid (rcs (fil (s1.W.take j) i) ++ rc x = rcs (fil (s1.W.take j) i ++ [x])) := hid (by rw [rcs_app, rcs_one])
        clear hxi HV
        generalize x.1 = xi at *
        generalize str x.2 = xs at *
        generalize rc x = RX at *
        generalize fil (s1.W.take j) i = V at *
        go_wp2_with (at_builtin; refine wpList_app2 _ rfl _ _ rfl A V.length c (rcs V) rfl O3.out (some ⟨w2.heap.size, 0, none⟩) 1 1 RX rfl RL.out (fun _ => ⟨_, rfl, R3.out⟩) RC.out (by have := HLE.out; omega) ?_)
        intro A4 c4 w4 hall4
        obtain ⟨ho4, hg4, hA4⟩ := hall4
        have HB4 : Hid (Below w1.heap.size w1 w4) := hid ((HB2.out.trans (B3.out.mono HB2.out.size)).grown hg4 (by rw [hs3]; have := HB2.out.size; omega) (fun k hk => hA.out k hk))
        have HA4 : Hid (∀ b, A4.map (·.block) = some b → w1.heap.size ≤ b) := hid (fun b hb => by
          rcases hA4 b hb with e | e
          · exact hA.out b e
          · have := HB2.out.size; omega)
        rw [HAP.out] at ho4
        have HO4 := hid ho4
        clear ho4 hg4 hA4 B3 O3 R3 hs3 HB2 HO2 hA y1 y2
        go_wp2
        exact ⟨⟨j + 1, A4, c4, congrArg (Value.int .i64) wj, by rw [HF.out]; simp, hid hlt, by rw [HF.out]; have h9 := HO4.out; rw [show V.length + 1 = (V ++ [x]).length by simp] at h9; exact hid h9, HB4, HA4⟩, by rw [wj]; simp [intOf]; omega⟩
    · have HJ : Hid (j = s1.W.length) := hid (by have := hj.out; omega)
      have j3 : decide ((j : Int) < (s1.W.length : Int)) = false := by simp; omega
      have j4 : decide (j < s1.W.length) = false := by simp; omega
      have HF : Hid (fil (s1.W.take j) i = fil s1.W i) := hid (by rw [HJ.out, List.take_length])
      rw [HF.out] at hO ⊢
      have hG1 := HG.out.bel hB.out
      have f1 := hG1.blk.frozen 1
      obtain ⟨y0, y1, -⟩ := hG1.cells
      have HN := hid (HG.out.setL' (fil s1.W i) (fun x hx => HG.out.ok.W x (List.mem_filter.1 hx).1) hO.out hB.out hA.out)
      clear hG1 hO hj hge HF hB hA HG
      have HOV : Hid (s1.over i l = { s1 with K := upd s1.K i (pad l), W := fil s1.W i }) := hid rfl
      generalize fil s1.W i = V at *
      as_aux_lemma =>
      go_upto_region 11 with fail
      generalize wr.setCell ⟨g, 1, none⟩ (.slice A V.length c) = w2 at *
      obtain ⟨y0, -, -⟩ := HN.out.1.cells
      clear f1 y1
      refine wp_region_held_drew (S := fun wx => wx.cell? ⟨g, 0, none⟩ = some (.slice (some ⟨kb, 0, none⟩) s1.n kc)) (by kernel_rfl) (by simpa using y0) (fun HS => ?_)
      have B3 : Hid (Below w2.heap.size w2 w2.drew) := hid ((Below.refl _ _).drew)
      generalize w2.drew = w3 at *
      obtain ⟨u0, u1⟩ := (HN.out.1.bel B3.out).keptCell HI.out
      refine wpAnyH_take (i := 0) (oi := ?oiq0) (v := ?vq0) ?hiq0 (by kernel_rfl) (by kernel_rfl) (by kernel_rfl) ?hQq0 ?hyq0 HS ?restq0
      case hiq0 => simp only [List.getElem?_toArray, List.getElem?_cons_zero]; exact rfl
      case hQq0 => exact fun _ _ _ h => h
      case hyq0 =>
        refine Or.inl ⟨by rfl, ?_⟩
        intro wS hSw
        go_simp
        try with_reducible rfl
      try simp only [Act.put, List.setIfInBounds_toArray, List.set_cons_zero, List.set_cons_succ]
      refine wpAnyH_take (i := 1) (oi := ?oiq1) (v := ?vq1) ?hiq1 (by kernel_rfl) (by kernel_rfl) (by kernel_rfl) ?hQq1 ?hyq1 HS ?restq1
      case hiq1 => simp only [List.getElem?_toArray, List.getElem?_cons_succ, List.getElem?_cons_zero]; exact rfl
      case hQq1 => exact fun _ _ _ h => h
      case hyq1 =>
        refine Or.inl ⟨by rfl, ?_⟩
        intro wS hSw
        go_simp
        try with_reducible rfl
      try simp only [Act.put, List.setIfInBounds_toArray, List.set_cons_zero, List.set_cons_succ]
      refine wpAnyH_take (i := 2) (oi := ?oiq2) (v := ?vq2) ?hiq2 (by kernel_rfl) (by kernel_rfl) (by kernel_rfl) ?hQq2 ?hyq2 HS ?restq2
      case hiq2 => simp only [List.getElem?_toArray, List.getElem?_cons_succ, List.getElem?_cons_zero]; exact rfl
      case hQq2 => exact fun _ _ _ h => h
      case hyq2 =>
        refine Or.inl ⟨by rfl, ?_⟩
        intro wS hSw
        go_simp
        try with_reducible rfl
      try simp only [Act.put, List.setIfInBounds_toArray, List.set_cons_zero, List.set_cons_succ]
      refine wpAnyH_take (i := 3) (oi := ?oiq3) (v := ?vq3) ?hiq3 (by kernel_rfl) (by kernel_rfl) (by kernel_rfl) ?hQq3 ?hyq3 HS ?restq3
      case hiq3 => simp only [List.getElem?_toArray, List.getElem?_cons_succ, List.getElem?_cons_zero]; exact rfl
      case hQq3 => exact fun _ _ _ h => h
      case hyq3 =>
        refine Or.inl ⟨by rfl, ?_⟩
        intro wS hSw
        go_simp
        try with_reducible rfl
      try simp only [Act.put, List.setIfInBounds_toArray, List.set_cons_zero, List.set_cons_succ]
      refine wpAnyH_take (i := 4) (oi := ?oiq4) (v := ?vq4) ?hiq4 (by kernel_rfl) (by kernel_rfl) (by kernel_rfl) ?hQq4 ?hyq4 HS ?restq4
      case hiq4 => simp only [List.getElem?_toArray, List.getElem?_cons_succ, List.getElem?_cons_zero]; exact rfl
      case hQq4 => exact fun _ _ _ h => h
      case hyq4 =>
        refine Or.inl ⟨by rfl, ?_⟩
        intro wS hSw
        go_simp
        try with_reducible rfl
      try simp only [Act.put, List.setIfInBounds_toArray, List.set_cons_zero, List.set_cons_succ]
      refine wpAnyH_take (i := 5) (oi := ?oiq5) (v := ?vq5) ?hiq5 (by kernel_rfl) (by kernel_rfl) (by kernel_rfl) ?hQq5 ?hyq5 HS ?restq5
      case hiq5 => simp only [List.getElem?_toArray, List.getElem?_cons_succ, List.getElem?_cons_zero]; exact rfl
      case hQq5 => exact fun _ _ _ h => h
      case hyq5 =>
        refine Or.inl ⟨by rfl, ?_⟩
        intro wS hSw
        go_simp
        try with_reducible rfl
      try simp only [Act.put, List.setIfInBounds_toArray, List.set_cons_zero, List.set_cons_succ]
      refine wpAnyH_ready (rs := [6]) (by kernel_rfl) (by simp) ?_
      refine AllReadyH.cons (o := ?oq6) ?hoq6 (fun K hK => ?stepq6) AllReadyH.nil
      case hoq6 => simp only [List.getElem?_toArray, List.getElem?_cons_succ, List.getElem?_cons_zero]; exact rfl
      go_simp
      refine (full_c l w3 HL.out).mono ?_
      rintro e wa ⟨rfl, rfl⟩
      refine hK.out _ _ HS (fun HS => ?_)
      clear hK K
      try simp only [Act.put, List.setIfInBounds_toArray, List.set_cons_zero, List.set_cons_succ]
      refine wpAnyH_take (i := 7) (oi := ?oiq7) (v := ?vq7) ?hiq7 (by kernel_rfl) (by kernel_rfl) (by kernel_rfl) ?hQq7 ?hyq7 HS ?restq7
      case hiq7 => simp only [List.getElem?_toArray, List.getElem?_cons_succ, List.getElem?_cons_zero]; exact rfl
      case hQq7 => exact fun _ _ _ h => h
      case hyq7 =>
        refine Or.inl ⟨by rfl, ?_⟩
        intro wS hSw
        go_simp
        try with_reducible rfl
      try simp only [Act.put, List.setIfInBounds_toArray, List.set_cons_zero, List.set_cons_succ]
      refine wpAnyH_ready (rs := [8]) (by kernel_rfl) (by simp) ?_
      refine AllReadyH.cons (o := ?oq8) ?hoq8 (fun K hK => ?stepq8) AllReadyH.nil
      case hoq8 => simp only [List.getElem?_toArray, List.getElem?_cons_succ, List.getElem?_cons_zero]; exact rfl
      rw [if_pos (by rfl)]
      go_simp
      refine hK.out _ _ (by have h0 := ((HN.out.1.bel B3.out).setK (i := i) (pad_len l HL.out)).cells.1; simpa using h0) (fun HS => ?_)
      clear hK K
      try simp only [Act.put]
      refine wpAnyH_done (by kernel_rfl) ?_ _
      have HE : Hid (RDevAt (w3.setCell ⟨kb, i, none⟩ (.string (str (pad l)))) (fun j => F1 j ∨ (w1.heap.size ≤ j ∧ j < wr.heap.size)) g { s1 with K := upd s1.K i (pad l), W := V } kb kc A c) := hid ((HN.out.1.bel B3.out).setK (pad_len l HL.out))
      have HK : Hid (Kp F1 w1 (w3.setCell ⟨kb, i, none⟩ (.string (str (pad l))))) := hid ((HN.out.2.1.trans (Kp.ofBelow B3.out)).trans (Kp.setCell _ _ _ _ HN.out.2.2))
      clear HS u0 u1 HN y0
      generalize w3.setCell ⟨kb, i, none⟩ (.string (str (pad l))) = w4 at *
      go_wp2
      go_ret
      exact ⟨rfl, _, ⟨kb, kc, A, c, by rw [HOV.out]; exact HE.out⟩, HK.out, fun j hj => by rcases hj with e | e; exact .inl e; exact .inr e.1⟩
end Go.Proofs.Ytdgcoipflenlgaa
