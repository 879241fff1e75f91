/- The document's Read and Write of a device. -/
import Derived.Test.YtdgcoipflenlgaaDvRef
namespace Go.Proofs.Ytdgcoipflenlgaa
open Go.RowKit

theorem app_last (W : Wr) (K : Bl) (i j : Nat) (hj : j < W.length) (hi : W[j].1 = i) (hN : ∀ t, ∀ ht : t < W.length, j + 1 ≤ t → W[t].1 ≠ i) : app W K i = W[j].2 := by
  have e : W = W.take j ++ ([W[j]] ++ W.drop (j + 1)) := by simp
  conv => lhs; rw [e]
  rw [app_append, app_append]
  rw [app_out _ _ i (fun x hx => ?_)]
  · show upd _ W[j].1 W[j].2 i = _
    rw [hi, upd_same]
  · obtain ⟨t, ht, he⟩ := List.getElem_of_mem hx
    rw [← he, List.getElem_drop]
    simp at ht
    exact hN _ (by omega) (by omega)
theorem rread_bad (w : World) (F : Nat → Prop) (g : Nat) (s : St) (h : RDev w F g s) (i : Int) (hb : bad s i 0) :
    Calls Try.prog 25 #[.pointer (some ⟨g, 0, none⟩), .int .i64 i] w fun e w' => e = .returned (.tuple #[.string (str []), .int .i64 2]) ∧ w = w' := by
  have hr := rright_c w F g s h i []
  rw [show decide (bad s i ([] : List UInt8).length) = true from decide_eq_true hb] at hr
  clear h hb
  go_enter Try.func25, Try.ntmps25
  go_wp2_with fail
  refine hr.mono ?_
  rintro e w' ⟨rfl, rfl⟩
  go_wp2
  go_ret2
  exact ⟨rfl, rfl⟩
theorem rread_off (w : World) (F : Nat → Prop) (g : Nat) (s : St) (h : RDev w F g s) (i : Int) (hb : ¬ bad s i 0) (ho : s.lim = some 0) :
    Calls Try.prog 25 #[.pointer (some ⟨g, 0, none⟩), .int .i64 i] w fun e w' => e = .returned (.tuple #[.string (str []), .int .i64 40]) ∧ w = w' := by
  have hr := rright_c w F g s h i []
  rw [show decide (bad s i ([] : List UInt8).length) = false from decide_eq_false hb] at hr
  obtain ⟨kb, kc, LA, lc, h⟩ := h
  obtain ⟨-, -, h2⟩ := h.cells
  have hz : rl s = 0 := by unfold rl; rw [ho]; rfl
  rw [hz] at h2
  clear h hb hz ho
  go_enter Try.func25, Try.ntmps25
  go_wp2_with fail
  refine hr.mono ?_
  rintro e w' ⟨rfl, rfl⟩
  go_wp2
  go_ret2
  exact ⟨rfl, rfl⟩
set_option maxHeartbeats 2000000 in
theorem rread_c (w : World) (F : Nat → Prop) (g : Nat) (s : St) (h : RDev w F g s) (i : Nat) (hi : i < s.n) (ho : s.lim ≠ some 0) (hW : s.W.length ≤ 1000000) :
    Calls Try.prog 25 #[.pointer (some ⟨g, 0, none⟩), .int .i64 (i : Int)] w fun e w' => e = .returned (.tuple #[.string (str (app s.W s.K i)), .int .i64 0]) ∧ w = w' := by
  have hr := rright_c w F g s h i []
  rw [show decide (bad s i ([] : List UInt8).length) = false from decide_eq_false (by unfold bad; simp; omega)] at hr
  obtain ⟨kb, kc, LA, lc, h⟩ := h
  obtain ⟨h0, h1, h2⟩ := h.cells
  have hz : (rl s == 0) = false := by
    unfold rl
    rcases hl : s.lim with _ | c
    · rfl
    · exact beq_false_of_ne (by intro e; exact ho (by rw [hl]; congr 1; simpa using e))
  have hk := (own_cell1 h.kept hi (ksc_at s.n s.K i hi)).1
  have HO := hid h.L
  have i1 : (0 : Int) ≤ (i : Int) := by omega
  have i2 : (i : Int) < (s.n : Int) := by omega
  have HW := hid hW
  have m1 : wrap64 ((s.W.length : Int) - 1) = (s.W.length : Int) - 1 := by unfold wrap64; omega
  generalize rl s = R at *
  clear h hi ho hW
  go_enter Try.func25, Try.ntmps25
  go_wp2_with fail
  refine hr.mono ?_
  rintro e w' ⟨rfl, rfl⟩
  clear hr
  go_wp2_with fail
  rw [m1]
  generalize hmv : (s.W.length : Int) - 1 = mv at *
  have HMV := hid hmv
  clear hmv m1
  go_loopw [6] (fun iv wr => ∃ j : Nat, iv = .int .i64 ((j : Int) - 1) ∧ Hid (j ≤ s.W.length) ∧ Hid (∀ t, ∀ ht : t < s.W.length, j ≤ t → s.W[t].1 ≠ i) ∧ w = wr) (fun iv _ => ((intOf iv) + 1).toNat)
  case atStart => exact ⟨s.W.length, by rw [HMV.out], hid (Nat.le_refl _), hid (fun t ht h => absurd ht (by omega)), rfl⟩
  case round =>
    obtain ⟨j, rfl, hj, hN, rfl⟩ := hrel
    clear HMV
    rcases j with _ | j
    · rw [show ((0 : Nat) : Int) - 1 = -1 from rfl]
      have HE : Hid (app s.W s.K i = s.K i) := hid (app_out _ _ _ fun x hx => by
        obtain ⟨t, ht, he⟩ := List.getElem_of_mem hx
        rw [← he]
        exact hN.out t ht (Nat.zero_le _))
      clear hj hN
      go_wp2
      go_ret2
      exact ⟨by rw [HE.out]; rfl, rfl⟩
    · obtain ⟨lb, hA, -, c0, c1⟩ := own_cells2 HO.out (j := j) hj.out
      subst hA
      have hjl : j < s.W.length := hj.out
      rw [show ((j + 1 : Nat) : Int) - 1 = (j : Int) by omega]
      have j1 : (0 : Int) ≤ (j : Int) := by omega
      have j2 : (j : Int) < (s.W.length : Int) := by omega
      have wj : wrap64 ((j : Int) - 1) = (j : Int) - 1 := by have := HW.out; unfold wrap64; omega
      by_cases hx : s.W[j].1 = i
      · have HE : Hid (app s.W s.K i = s.W[j].2) := hid (app_last _ _ _ j hjl hx hN.out)
        rw [hx] at c0
        have e1 : ((i : Int) == (i : Int)) = true := by simp
        generalize s.W[j].2 = bb at *
        clear hN hx
        go_wp2
        go_ret2
        exact ⟨by rw [HE.out]; rfl, rfl⟩
      · have e1 : ((s.W[j].1 : Int) == (i : Int)) = false := beq_false_of_ne (by omega)
        have HN : Hid (∀ t, ∀ ht : t < s.W.length, j ≤ t → s.W[t].1 ≠ i) := hid (fun t ht h => by
          rcases Nat.lt_or_ge j t with h1 | h1
          · exact hN.out t ht h1
          · have : t = j := by omega
            subst this; exact hx)
        generalize s.W[j].1 = xx at *
        clear hN hx
        go_wp2
        exact ⟨⟨j, congrArg (Value.int .i64) (by first | exact wj | omega), hid (by omega), HN, by first | rfl | trivial⟩, by (try rw [wj]); simp [intOf] <;> omega⟩

theorem Try.infoR : (Try.prog.info? 68).map (fun i => (i.zero, i.size, i.bytes)) = some (some (.agg #[.int .i64 0, .string ⟨#[]⟩]), 2, 24) := by kernel_rfl
/-- A row of the document's writes that grew. -/
def Grew2 (w w' : World) (A A' : Option Addr) (n c : Nat) (xs : List Value) : Prop := w'.ownsRow 0 68 2 (.slice A' n c) n xs ∧ w.grownBy w' (A.map (·.block)) ∧ (∀ d, A'.map (·.block) = some d → A.map (·.block) = some d ∨ d = w.heap.size)
/-- append(s, t...) of a slice of the document's writes. -/
theorem wpList_app2 (w : World) {ops : Array Oper} {rest : List Oper} {o : Oper} {a : Act} {Q : Exit → Act → World → Prop} (hgd : o.guard = none) (s x : Operand)
    (ho : o.op = .call { callee := .builtin .append, args := #[s, x], argTypes := #[43, 43] })
    (A : Option Addr) (n c : Nat) (xs : List Value) (hs : a.eval s = .slice A n c) (hown : w.ownsRow 0 68 2 (.slice A n c) n xs)
    (A2 : Option Addr) (m c2 : Nat) (news : List Value) (hx : a.eval x = .slice A2 m c2) (hl : news.length = m * 2) (hr : 0 < m → ∃ b, A2 = some ⟨b, 0, none⟩ ∧ w.rangeAt b 0 news) (h1 : ∀ u ∈ news, u.oneCell' = true) (hn : n + m ≤ 1000000)
    (h : ∀ A' c' w', Grew2 w w' A A' (n + m) c' (xs ++ news) → wpList Try.prog ops Q rest (a.put o.dst (.slice A' (n + m) c')) w') :
    wpList Try.prog ops Q (o :: rest) a w := by
  obtain ⟨i, hi, hz0, hz1, hz2⟩ := info_parts Try.infoR
  have hv : (Value.slice A n c).ownBlock = A.map (·.block) := by cases A <;> rfl
  rcases Nat.eq_zero_or_pos m with h0 | h0
  · subst h0
    have hnil : news = [] := List.eq_nil_of_length_eq_zero (by omega)
    subst hnil
    have hc3 : n ≤ c := by
      rcases hown.2 with ⟨hv', h0⟩ | ⟨g, cap, cur, hv', _, _, hnc, _⟩
      · injection hv' with _ _ h5; omega
      · injection hv' with _ _ h5; omega
    have hrun : (Builtin.append_ #[43, 43] o.type #[.slice A n c, .slice A2 0 c2]).run Try.prog w = .ok (.slice A n c) w := by
      cases A <;> cases A2 <;> simp [Builtin.append_, run_underlying Try.underlying43, sizeOf, typeInfo, hi, Builtin.lenOf, Builtin.firstCells, loadCells, loadCellsFrom, storeCells, hc3]
    refine wpList_plain hgd fun K hK => ?_
    unfold Oper.wp execOp
    simp only [ho, resolve, invoke, builtin, Sem.run_bind, Sem.run_pure, Result.andThen_ok, List.map_toArray, List.map_cons, List.map_nil, hs, hx, hrun]
    exact hK _ _ (h A c w ⟨by simpa using hown, grown_refl _ _, fun d hd => .inl hd⟩)
  · obtain ⟨b, rfl, hrr⟩ := hr h0
    refine wpList_append_own_at _ hgd s x 43 ho 0 68 i _ 2 24 Try.underlying43 hi hz0 hz1 hz2 rfl (by decide) _ n xs hs hown ⟨b, 0, none⟩ m c2 news hx hl (fun j u hu => by rw [add_plain]; exact hrr j u hu) h1 (by unfold maxLen; omega) (by omega) (Nat.zero_le _) ?_
    intro v' w' hown' hgr _ h5
    obtain ⟨A', c', rfl⟩ : ∃ A' c', v' = .slice A' (n + m) c' := by
      rcases hown'.2 with ⟨_, h0⟩ | ⟨g, cap, cur, hv', _⟩
      · omega
      · exact ⟨_, _, hv'⟩
    have hv2 : (Value.slice A' (n + m) c').ownBlock = A'.map (·.block) := by cases A' <;> rfl
    rw [hv] at hgr h5
    rw [hv2] at h5
    exact h A' c' w' ⟨hown', hgr, fun d hd => by
      rcases h5 with h5 | h5
      · exact .inl (h5 ▸ hd)
      · rw [h5] at hd; injection hd with hd; exact .inr hd.symm⟩

theorem rwrite_bad (w : World) (F : Nat → Prop) (g : Nat) (s : St) (h : RDev w F g s) (i : Int) (l : List UInt8) (hb : bad s i l.length) :
    Calls Try.prog 12 #[.pointer (some ⟨g, 0, none⟩), .int .i64 i, .string (str l)] w fun e w' => e = .returned (.int .i64 2) ∧ w = w' := by
  have hr := rright_c w F g s h i l
  rw [show decide (bad s i l.length) = true from decide_eq_true hb] at hr
  clear h hb
  go_enter Try.func12, Try.ntmps12
  go_wp2_with fail
  refine hr.mono ?_
  rintro e w' ⟨rfl, rfl⟩
  go_wp2
  go_ret
  exact ⟨rfl, rfl⟩
theorem rwrite_off (w : World) (F : Nat → Prop) (g : Nat) (s : St) (h : RDev w F g s) (i : Int) (l : List UInt8) (hb : ¬ bad s i l.length) (ho : s.lim = some 0) :
    Calls Try.prog 12 #[.pointer (some ⟨g, 0, none⟩), .int .i64 i, .string (str l)] w fun e w' => e = .returned (.int .i64 40) ∧ w = w' := by
  have hr := rright_c w F g s h i l
  rw [show decide (bad s i l.length) = false from decide_eq_false hb] at hr
  have hc := rcall_off w F g s h ho
  clear h hb ho
  go_enter Try.func12, Try.ntmps12
  go_wp2_with fail
  refine hr.mono ?_
  rintro e w' ⟨rfl, rfl⟩
  go_wp2_with fail
  refine hc.mono ?_
  rintro e w' ⟨rfl, rfl⟩
  go_wp2
  go_ret
  exact ⟨rfl, rfl⟩
/-- A new row of writes laid into the document's device. -/
theorem RDevAt.setL {w w7 : World} {F : Nat → Prop} {g : Nat} {s : St} {kb kc lc : Nat} {LA : Option Addr} (h : RDevAt w F g s kb kc LA lc) (W : Wr) (hW : ∀ x ∈ W, x.1 < s.n ∧ x.2.length = 16) {A : Option Addr} {c : Nat}
    (ho : w7.ownsRow 0 68 2 (.slice A W.length c) W.length (rcs W)) (hb : Below w.heap.size w w7) (hA : ∀ b, A.map (·.block) = some b → w.heap.size ≤ b) :
    RLeft w (w7.setCell ⟨g, 1, none⟩ (.slice A W.length c)) F g { s with W := W } := by
  have hg := grown_setCell w7 g 1 (.slice A W.length c)
  have lt : ∀ j, F j → j < w7.heap.size := fun j hj => Nat.lt_of_lt_of_le (h.F j hj) hb.size
  have nb : ∀ b, A.map (·.block) = some b → b ≠ g ∧ b ≠ kb := fun b hb' => by
    have h1 := hA b hb'
    have h2 := h.F g h.Fg
    have h3 := h.F kb h.Fk
    omega
  refine ⟨fun j => F j ∨ (w.heap.size ≤ j ∧ j < w7.heap.size), ⟨kb, kc, A, c, ?_, ?_, ?_, h.gk, .inl h.Fk, fun b hb' => ⟨(nb b hb').1, (nb b hb').2, .inr ⟨hA b hb', own_lt ho b hb'⟩⟩, .inl h.Fg, fun j hj => ?_, ⟨h.ok.n1, h.ok.n2, h.ok.K, hW, h.ok.lim⟩⟩, ?_, fun j hj => ?_⟩
  · exact (h.blk.keep (hb.block g (h.F g h.Fg))).store 1 _
  · have k1 := own_keep (w' := w7) h.kept fun b hb' => (by simp at hb'; subst hb'; exact hb.block kb (h.F kb h.Fk))
    exact own_keep k1 fun b hb' => (by simp at hb'; subst hb'; exact hg.block kb (lt kb h.Fk) (by simpa using h.gk))
  · exact own_keep ho fun b hb' => hg.block b (own_lt ho b hb') (by simpa using (nb b hb').1)
  · have := hg.size
    rcases hj with e | e
    · have := lt j e; omega
    · omega
  · exact (Kp.ofBelow hb).trans (Kp.setCell w7 g 1 _ h.Fg)
  · rcases hj with e | e
    · exact .inl e
    · exact .inr e.1
set_option maxHeartbeats 2000000 in
theorem rwrite_c (w : World) (F : Nat → Prop) (g : Nat) (s : St) (h : RDev w F g s) (i : Nat) (hi : i < s.n) (l : List UInt8) (hl : l.length ≤ 16) (ho : s.lim ≠ some 0) (hW : s.W.length ≤ 100000) :
    Calls Try.prog 12 #[.pointer (some ⟨g, 0, none⟩), .int .i64 (i : Int), .string (str l)] w fun e w' => e = .returned (.int .i64 0) ∧ RLeft w w' F g (s.put i l).dec := by
  have hr := rright_c w F g s h i l
  rw [show decide (bad s i l.length) = false from decide_eq_false (by unfold bad; omega)] at hr
  have hc := rcall_on w F g s h ho
  have HI : Hid (i < s.dec.n) := hid hi
  have HL := hid hl
  have HW : Hid (s.dec.W.length ≤ 100000) := hid hW
  have HE : Hid ((s.put i l).dec = s.dec.put i l) := hid rfl
  rw [HE.out]
  generalize s.dec = s1 at *
  clear h hi hl ho hW HE
  go_enter Try.func12, Try.ntmps12
  go_wp2_with fail
  refine hr.mono ?_
  rintro e w' ⟨rfl, rfl⟩
  go_wp2_with fail
  refine hc.mono ?_
  rintro e w1 ⟨rfl, F1, ⟨kb, kc, LA, lc, hd⟩, hk1, hF1⟩
  obtain ⟨-, x1, -⟩ := hd.cells
  have HD := hid hd
  have HK1 := hid hk1
  have HF1 := hid hF1
  clear hr hc hk1 hF1 hd
  have O0 : Hid ((w1.alloc (.cells #[] 68)).ownsRow 0 68 2 (.slice (some ⟨w1.heap.size, 0, none⟩) 0 0) 0 []) := hid ⟨rfl, .inr ⟨w1.heap.size, 0, #[], rfl, Nat.zero_le _, heap_alloc_new w1 _, Nat.le_refl _, Nat.zero_le _, rfl, rfl⟩⟩
  have B0 : Hid (Below w1.heap.size w1 (w1.alloc (.cells #[] 68))) := hid ((Below.refl _ _).alloc (Nat.le_refl _) _)
  have y1 : (w1.alloc (.cells #[] 68)).cell? ⟨g, 1, none⟩ = some (.slice LA s1.W.length lc) := (World.cell?_of_block (B0.out.block g (HD.out.F g HD.out.Fg))).trans x1
  have hs0 : (w1.alloc (.cells #[] 68)).heap.size = w1.heap.size + 1 := by simp
  have HSR : Hid (0 < s1.W.length → ∃ b, LA = some ⟨b, 0, none⟩ ∧ (w1.alloc (.cells #[] 68)).rangeAt b 0 (rcs s1.W)) := hid (fun h0 => by
    obtain ⟨b, hA, hlt, hr⟩ := own_range HD.out.L h0
    exact ⟨b, hA, rangeAt_keep hr (B0.out.block b hlt)⟩)
  clear x1
  go_wp2_with (at_builtin; refine wpList_app2 _ rfl _ _ rfl _ 0 0 [] rfl O0.out LA s1.W.length lc (rcs s1.W) rfl (rcs_len _) HSR.out (rcs_oneC _) (by have := HW.out; omega) ?_)
  intro A2 c2 w2 hall2
  obtain ⟨ho2, hg2, hA2⟩ := hall2
  try rw [Nat.zero_add, List.nil_append] at ho2
  have HB2 : Hid (Below w1.heap.size w1 w2) := hid (B0.out.grown hg2 (by rw [hs0]; omega) (fun k hk => by simp at hk; omega))
  have HA2 : Hid (∀ b, A2.map (·.block) = some b → w1.heap.size ≤ b) := hid (fun b hb => by
    rcases hA2 b hb with e | e
    · simp at e; omega
    · omega)
  have HO2 := hid ho2
  clear ho2 hg2 hA2 O0 B0 y1 hs0 HSR
  go_wp2_with fail
  refine (full_c l w2 HL.out).mono ?_
  rintro e w' ⟨rfl, rfl⟩
  have B3 : Hid (Below w2.heap.size w2 (w2.alloc (.cells #[.int .i64 (i : Int), .string (str (pad l))] 68))) := hid ((Below.refl _ _).alloc (Nat.le_refl _) _)
  have O3 : Hid ((w2.alloc (.cells #[.int .i64 (i : Int), .string (str (pad l))] 68)).ownsRow 0 68 2 (.slice A2 s1.W.length c2) s1.W.length (rcs s1.W)) := hid (own_keep HO2.out fun b hb => B3.out.block b (own_lt HO2.out b hb))
  have R3 : Hid ((w2.alloc (.cells #[.int .i64 (i : Int), .string (str (pad l))] 68)).rangeAt w2.heap.size 0 (rc (i, pad l))) := hid (fun j v hv => by
    rw [(Blk.new w2 68 #[.int .i64 (i : Int), .string (str (pad l))]).cell, Nat.zero_add]
    rw [show (#[.int .i64 (i : Int), .string (str (pad l))] : Array Value) = (rc (i, pad l)).toArray from rfl, List.getElem?_toArray]
    exact hv)
  have hs3 : (w2.alloc (.cells #[.int .i64 (i : Int), .string (str (pad l))] 68)).heap.size = w2.heap.size + 1 := by simp
  go_wp2_with (at_builtin; refine wpList_app2 _ rfl _ _ rfl A2 s1.W.length c2 (rcs s1.W) rfl O3.out (some ⟨w2.heap.size, 0, none⟩) 1 1 (rc (i, pad l)) rfl rfl (fun _ => ⟨_, rfl, R3.out⟩) (rc_one _) (by have := HW.out; omega) ?_)
  intro A4 c4 w4 hall4
  obtain ⟨ho4, hg4, hA4⟩ := hall4
  have HB4 : Hid (Below w1.heap.size w1 w4) := hid ((HB2.out.trans (B3.out.mono HB2.out.size)).grown hg4 (by rw [hs3]; have := HB2.out.size; omega) (fun k hk => HA2.out k hk))
  have hA4' : ∀ b, A4.map (·.block) = some b → w1.heap.size ≤ b := fun b hb => by
    rcases hA4 b hb with e | e
    · exact HA2.out b e
    · have := HB2.out.size; omega
  rw [← rcs_one (i, pad l), ← rcs_app] at ho4
  have hlen : s1.W.length + 1 = (s1.W ++ [(i, pad l)]).length := by simp
  have HLE : Hid (RLeft w1 (w4.setCell ⟨g, 1, none⟩ (.slice A4 (s1.W.length + 1) c4)) F1 g (s1.put i l)) := hid (by
    rw [hlen] at ho4 ⊢
    exact HD.out.setL (s1.W ++ [(i, pad l)]) (fun x hx => by
      rcases List.mem_append.1 hx with hx | hx
      · exact HD.out.ok.W x hx
      · rw [List.mem_singleton] at hx; subst hx; exact ⟨HI.out, pad_len l HL.out⟩) ho4 HB4.out hA4')
  have eg := HB4.out.block g (HD.out.F g HD.out.Fg)
  have f4 := (HD.out.blk.keep eg).frozen 1
  have u4 := (HD.out.blk.keep eg).cell 1
  simp at u4
  clear ho4 hg4 hA4 hA4' hlen eg B3 O3 R3 hs3 HB2 HA2 HO2
  go_wp2
  go_ret
  exact ⟨rfl, RLeft.after HK1.out HF1.out HLE.out⟩
end Go.Proofs.Ytdgcoipflenlgaa
