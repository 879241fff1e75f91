/- The document's device: New. -/
import Derived.Test.YtdgcoipflenlgaaDvRef4
namespace Go.Proofs.Ytdgcoipflenlgaa
open Go.RowKit

theorem Try.infoS : (Try.prog.info? 9).map (fun i => (i.zero, i.size, i.bytes)) = some (some (.string ⟨#[]⟩), 1, 16) := by kernel_rfl
theorem wp_append_s {op : Oper} {a : Act} {w : World} {K : Act → World → Prop} {Q : Exit → Act → World → Prop} (s x : Operand) (ho : op.op = .call { callee := .builtin .append, args := #[s, x], argTypes := #[42, 42] })
    (A : Option Addr) (n c : Nat) (xs : List Value) (hs : a.eval s = .slice A n c) (hown : w.ownsRow 0 9 1 (.slice A n c) n xs) (b : Nat) (hx : a.eval x = .slice (some ⟨b, 0, none⟩) 1 1)
    (u : Value) (hr : w.rangeAt b 0 [u]) (h1 : u.oneCell' = true) (hn : n ≤ 1000000)
    (h : ∀ A' c' w', w'.ownsRow 0 9 1 (.slice A' (n + 1) c') (n + 1) (xs ++ [u]) → w.grownBy w' (A.map (·.block)) → (∀ d, A'.map (·.block) = some d → A.map (·.block) = some d ∨ d = w.heap.size) → K (a.put op.dst (.slice A' (n + 1) c')) w') : op.wp Try.prog a w K Q := by
  obtain ⟨i, hi, hz0, hz1, hz2⟩ := info_parts Try.infoS
  obtain ⟨v', w', hrun, h2, h3, _, h5⟩ := run_append_own_at (P := Try.prog) w 0 42 op.type 9 i _ 1 16 Try.underlying42 hi hz0 hz1 hz2 rfl (by decide) _ n xs hown ⟨b, 0, none⟩ 1 1 [u] rfl (fun j u hu => by rw [add_plain]; exact hr j u hu) (by simpa using h1) (by unfold maxLen; omega) (by omega) (Nat.zero_le _)
  have hv : (Value.slice A n c).ownBlock = A.map (·.block) := by cases A <;> rfl
  obtain ⟨A', c', rfl⟩ : ∃ A' c', v' = .slice A' (n + 1) c' := by
    rcases h2.2 with ⟨_, h0⟩ | ⟨g, cap, cur, hv', _⟩
    · omega
    · exact ⟨_, _, hv'⟩
  have hv2 : (Value.slice A' (n + 1) c').ownBlock = A'.map (·.block) := by cases A' <;> rfl
  unfold Oper.wp execOp
  simp only [ho, resolve, invoke, builtin, Sem.run_bind, Sem.run_pure, Result.andThen_ok, List.map_toArray, List.map_cons, List.map_nil, hs, hx, hrun]
  rw [hv] at h3 h5
  rw [hv2] at h5
  exact h A' c' w' h2 h3 fun d hd => by
    rcases h5 with h5 | h5
    · exact .inl (h5 ▸ hd)
    · rw [h5] at hd; injection hd with hd; exact .inr hd.symm
theorem ksc_succ (n : Nat) (K : Bl) : ksc (n + 1) K = ksc n K ++ [.string (str (K n))] := by simp [ksc, List.range_succ]

/-- In the midst of New: j blocks are laid. -/
structure RNew (w w1 : World) (g j : Nat) (A : Option Addr) (c : Nat) : Prop where
  blk : Blk w1 g 45 #[.slice A j c, .slice none 0 0, .int .i64 (-1)]
  kept : w1.ownsRow 0 9 1 (.slice A j c) j (ksc j zero)
  bel : Below w.heap.size w w1
  g0 : g = w.heap.size
  A0 : ∀ b, A.map (·.block) = some b → w.heap.size < b

theorem RNew.blk6 {w w2 w6 : World} {g j : Nat} {A : Option Addr} {c : Nat} (h : RNew w w2 g j A c) (hg : (w2.alloc (.cells #[.string (str (pad []))] 9)).grownBy w6 (A.map (·.block))) :
    Blk w6 g 45 #[.slice A j c, .slice none 0 0, .int .i64 (-1)] := by
  have h1 := h.blk.lt
  exact (h.blk.keep (((Below.refl w2.heap.size w2).alloc (Nat.le_refl _) _).block g h1)).keep (hg.block g (by simp; omega) (fun e => by have := h.A0 g e.symm; have := h.g0; omega))
theorem RNew.next {w w2 w6 : World} {g j : Nat} {A A6 : Option Addr} {c c6 : Nat} (h : RNew w w2 g j A c) (ho : w6.ownsRow 0 9 1 (.slice A6 (j + 1) c6) (j + 1) (ksc j zero ++ [.string (str (pad []))])) (hg : (w2.alloc (.cells #[.string (str (pad []))] 9)).grownBy w6 (A.map (·.block)))
    (hA : ∀ d, A6.map (·.block) = some d → A.map (·.block) = some d ∨ d = (w2.alloc (.cells #[.string (str (pad []))] 9)).heap.size) : RNew w (w6.setCell ⟨g, 0, none⟩ (.slice A6 (j + 1) c6)) g (j + 1) A6 c6 := by
  have h1 := h.blk.lt
  have h2 := h.bel.size
  have hA0 : ∀ b, A6.map (·.block) = some b → w.heap.size < b := fun b hb => by
    rcases hA b hb with e | e
    · exact h.A0 b e
    · simp at e; have := h.g0; omega
  have hg2 := grown_setCell w6 g 0 (.slice A6 (j + 1) c6)
  have e1 := h.g0
  refine ⟨(h.blk6 hg).store 0 _, ?_, ?_, h.g0, hA0⟩
  · rw [ksc_succ, show zero j = pad [] from rfl]
    exact own_keep ho fun b hb => hg2.block b (own_lt ho b hb) (by have := hA0 b hb; simp; omega)
  · refine ((h.bel.alloc h2 _).grown hg (by simp; omega) (fun k hk => by have := h.A0 k hk; omega)).grown hg2 (Nat.le_trans h2 (Nat.le_trans (by simp) hg.size)) (fun k hk => by injection hk with hk; omega)

set_option maxRecDepth 20000 in
set_option maxHeartbeats 4000000 in
theorem rnew_c (n : Nat) (w : World) (h1 : 1 ≤ n) (h2 : n ≤ 4096) :
    Calls Try.prog 10 #[.int .i64 (n : Int)] w fun e w' => ∃ g F, e = .returned (.pointer (some ⟨g, 0, none⟩)) ∧ RDev w' F g (St.new n) ∧ Below w.heap.size w w' ∧ ∀ j, F j → w.heap.size ≤ j := by
  have H1 := hid h1
  have H2 := hid h2
  clear h1 h2
  have B0 : Hid (RNew w (w.alloc (.cells #[.slice none 0 0, .slice none 0 0, .int .i64 (-1)] 45)) w.heap.size 0 none 0) := hid ⟨Blk.new _ _ _, ⟨rfl, .inl ⟨rfl, rfl⟩⟩, (Below.refl _ _).alloc (Nat.le_refl _) _, rfl, fun b hb => by cases hb⟩
  go_enter Try.func10, Try.ntmps10
  go_wp2_with fail
  generalize w.alloc (.cells #[.slice none 0 0, .slice none 0 0, .int .i64 (-1)] 45) = w1 at *
  generalize hg : w.heap.size = g at *
  have HGE := hid hg
  clear hg
  go_loopw [4] (fun iv wr => ∃ (j : Nat) (A : Option Addr) (c : Nat), iv = .int .i64 (j : Int) ∧ Hid (j ≤ n) ∧ Hid (RNew w wr g j A c)) (fun iv _ => n - (intOf iv).toNat)
  case atStart => exact ⟨0, none, 0, rfl, hid (Nat.zero_le _), B0⟩
  case round =>
    obtain ⟨j, A, c, rfl, hj, hN⟩ := hrel
    clear B0
    rcases Nat.lt_or_ge j n with hlt | hge
    · have HLT := hid hlt
      have j3 : decide ((j : Int) < (n : Int)) = true := by simpa using hlt
      have j4 : decide (j < n) = true := by simpa using hlt
      have wj : wrap64 ((j : Int) + 1) = ((j + 1 : Nat) : Int) := by have := H2.out; unfold wrap64; omega
      have x0 := hN.out.blk.cell 0
      simp at x0
      go_wp2_with fail
      refine wp_region_held_drew (S := fun _ => True) (by kernel_rfl) trivial (fun HS => ?_)
      have HN1 : Hid (RNew w wr.drew g j A c) := hid ⟨hN.out.blk, own_keep hN.out.kept (fun _ _ => rfl), hN.out.bel.drew, hN.out.g0, hN.out.A0⟩
      clear hN x0
      generalize wr.drew = w2 at *
      have x0 := HN1.out.blk.cell 0
      simp at x0
      have O3 : Hid ((w2.alloc (.cells #[.string (str (pad []))] 9)).ownsRow 0 9 1 (.slice A j c) j (ksc j zero)) := hid (own_keep HN1.out.kept fun b hb => ((Below.refl w2.heap.size w2).alloc (Nat.le_refl _) _).block b (own_lt HN1.out.kept b hb))
      have R3 : Hid ((w2.alloc (.cells #[.string (str (pad []))] 9)).rangeAt w2.heap.size 0 [.string (str (pad []))]) := hid (fun t v hv => by
        rw [(Blk.new w2 9 #[.string (str (pad []))]).cell, Nat.zero_add]
        rw [show (#[.string (str (pad []))] : Array Value) = ([.string (str (pad []))] : List Value).toArray from rfl, List.getElem?_toArray]
        exact hv)
      have x9 : (w2.alloc (.cells #[.string (str (pad []))] 9)).cell? ⟨g, 0, none⟩ = some (.slice A j c) := (World.cell?_of_block (((Below.refl w2.heap.size w2).alloc (Nat.le_refl _) _).block g HN1.out.blk.lt)).trans x0
      refine wpAnyH_take (i := 0) (oi := ?oi0) (v := ?v0) ?hi0 (by kernel_rfl) (by kernel_rfl) (by kernel_rfl) ?hQ0 ?hy0 HS ?rest0
      case hi0 => simp only [List.getElem?_toArray, List.getElem?_cons_zero]; exact rfl
      case hQ0 => exact fun _ _ _ h => h
      case hy0 =>
        refine Or.inl ⟨by rfl, ?_⟩
        intro wS hSw
        go_simp
        try with_reducible rfl
      try simp only [Act.put, List.setIfInBounds_toArray, List.set_cons_zero, List.set_cons_succ]
      refine wpAnyH_take (i := 1) (oi := ?oi1) (v := ?v1) ?hi1 (by kernel_rfl) (by kernel_rfl) (by kernel_rfl) ?hQ1 ?hy1 HS ?rest1
      case hi1 => simp only [List.getElem?_toArray, List.getElem?_cons_succ, List.getElem?_cons_zero]; exact rfl
      case hQ1 => exact fun _ _ _ h => h
      case hy1 =>
        refine Or.inl ⟨by rfl, ?_⟩
        intro wS hSw
        go_simp
        try with_reducible rfl
      try simp only [Act.put, List.setIfInBounds_toArray, List.set_cons_zero, List.set_cons_succ]
      refine wpAnyH_take (i := 2) (oi := ?oi2) (v := ?v2) ?hi2 (by kernel_rfl) (by kernel_rfl) (by kernel_rfl) ?hQ2 ?hy2 HS ?rest2
      case hi2 => simp only [List.getElem?_toArray, List.getElem?_cons_succ, List.getElem?_cons_zero]; exact rfl
      case hQ2 => exact fun _ _ _ h => h
      case hy2 =>
        refine Or.inl ⟨by rfl, ?_⟩
        intro wS hSw
        go_simp
        try with_reducible rfl
      try simp only [Act.put, List.setIfInBounds_toArray, List.set_cons_zero, List.set_cons_succ]
      refine wpAnyH_take (i := 3) (oi := ?oi3) (v := ?v3) ?hi3 (by kernel_rfl) (by kernel_rfl) (by kernel_rfl) ?hQ3 ?hy3 HS ?rest3
      case hi3 => simp only [List.getElem?_toArray, List.getElem?_cons_succ, List.getElem?_cons_zero]; exact rfl
      case hQ3 => exact fun _ _ _ h => h
      case hy3 =>
        refine Or.inl ⟨by rfl, ?_⟩
        intro wS hSw
        go_simp
        try with_reducible rfl
      try simp only [Act.put, List.setIfInBounds_toArray, List.set_cons_zero, List.set_cons_succ]
      refine wpAnyH_ready (rs := [4, 5]) (by kernel_rfl) (by simp) ?_
      refine (AllReadyH.cons (o := ?o4) ?ho4 (fun K hK => ?step4) (AllReadyH.cons (o := ?o5) ?ho5 (fun K hK => ?step5) AllReadyH.nil))
      case ho4 => simp only [List.getElem?_toArray, List.getElem?_cons_succ, List.getElem?_cons_zero]; exact rfl
      case ho5 => simp only [List.getElem?_toArray, List.getElem?_cons_succ, List.getElem?_cons_zero]; exact rfl
      case step4 =>
        go_simp
        refine hK.out _ _ trivial (fun HS => ?_)
        clear hK K
        try simp only [Act.put, List.setIfInBounds_toArray, List.set_cons_zero, List.set_cons_succ]
        refine wpAnyH_ready (rs := [5]) (by kernel_rfl) (by simp) ?_
        refine AllReadyH.cons (o := ?oa5) ?hoa5 (fun K hK => ?stepa5) AllReadyH.nil
        case hoa5 => simp only [List.getElem?_toArray, List.getElem?_cons_succ, List.getElem?_cons_zero]; exact rfl
        go_simp
        refine (full_c [] w2 (by decide)).mono ?_
        rintro e wa ⟨rfl, rfl⟩
        refine hK.out _ _ trivial (fun HS => ?_)
        clear hK K
        try simp only [Act.put, List.setIfInBounds_toArray, List.set_cons_zero, List.set_cons_succ]
        refine wpAnyH_ready (rs := [6]) (by kernel_rfl) (by simp) ?_
        refine AllReadyH.cons (o := ?oa6) ?hoa6 (fun K hK => ?stepa6) AllReadyH.nil
        case hoa6 => simp only [List.getElem?_toArray, List.getElem?_cons_succ, List.getElem?_cons_zero]; exact rfl
        go_simp
        refine hK.out _ _ trivial (fun HS => ?_)
        clear hK K
        try simp only [Act.put, List.setIfInBounds_toArray, List.set_cons_zero, List.set_cons_succ]
        refine wpAnyH_ready (rs := [7]) (by kernel_rfl) (by simp) ?_
        refine AllReadyH.cons (o := ?oa7) ?hoa7 (fun K hK => ?stepa7) AllReadyH.nil
        case hoa7 => simp only [List.getElem?_toArray, List.getElem?_cons_succ, List.getElem?_cons_zero]; exact rfl
        rw [if_pos (by rfl)]
        refine wp_append_s _ _ rfl A j c (ksc j zero) rfl O3.out w2.heap.size rfl (.string (str (pad []))) R3.out rfl (by have := HLT.out; have := H2.out; omega) ?_
        intro A6 c6 w6 ho6 hg6 hA6
        have HN6 : Hid (RNew w (w6.setCell ⟨g, 0, none⟩ (.slice A6 (j + 1) c6)) g (j + 1) A6 c6) := hid (HN1.out.next ho6 hg6 hA6)
        have f6 := (HN1.out.blk6 hg6).frozen 0
        have x6 := (HN1.out.blk6 hg6).cell 0
        simp at x6
        clear ho6 hg6 hA6 O3 R3 HN1 x0 x9
        refine hK.out _ _ trivial (fun HS => ?_)
        clear hK K
        try simp only [Act.put, List.setIfInBounds_toArray, List.set_cons_zero, List.set_cons_succ]
        refine wpAnyH_take (i := 8) (oi := ?oia8) (v := ?va8) ?hia8 (by kernel_rfl) (by kernel_rfl) (by kernel_rfl) ?hQa8 ?hya8 HS ?resta8
        case hia8 => simp only [List.getElem?_toArray, List.getElem?_cons_succ, List.getElem?_cons_zero]; exact rfl
        case hQa8 => exact fun _ _ _ h => h
        case hya8 =>
          refine Or.inl ⟨by rfl, ?_⟩
          intro wS hSw
          go_simp
          try with_reducible rfl
        try simp only [Act.put, List.setIfInBounds_toArray, List.set_cons_zero, List.set_cons_succ]
        refine wpAnyH_take (i := 9) (oi := ?oia9) (v := ?va9) ?hia9 (by kernel_rfl) (by kernel_rfl) (by kernel_rfl) ?hQa9 ?hya9 HS ?resta9
        case hia9 => simp only [List.getElem?_toArray, List.getElem?_cons_succ, List.getElem?_cons_zero]; exact rfl
        case hQa9 => exact fun _ _ _ h => h
        case hya9 =>
          refine Or.inl ⟨by rfl, ?_⟩
          intro wS hSw
          go_simp
          try with_reducible rfl
        try simp only [Act.put, List.setIfInBounds_toArray, List.set_cons_zero, List.set_cons_succ]
        refine wpAnyH_ready (rs := [10]) (by kernel_rfl) (by simp) ?_
        refine AllReadyH.cons (o := ?oa10) ?hoa10 (fun K hK => ?stepa10) AllReadyH.nil
        case hoa10 => simp only [List.getElem?_toArray, List.getElem?_cons_succ, List.getElem?_cons_zero]; exact rfl
        rw [if_pos (by rfl)]
        go_simp
        refine hK.out _ _ trivial (fun HS => ?_)
        clear hK K
        try simp only [Act.put]
        refine wpAnyH_done (by kernel_rfl) ?_ _
        generalize w6.setCell ⟨g, 0, none⟩ (.slice A6 (j + 1) c6) = w7 at *
        go_wp2
        exact ⟨⟨j + 1, A6, c6, congrArg (Value.int .i64) (by first | exact wj | omega), hid HLT.out, HN6⟩, by (try rw [wj]); have := HLT.out; simp [intOf]; omega⟩
      case step5 =>
        go_simp
        refine (full_c [] w2 (by decide)).mono ?_
        rintro e wa ⟨rfl, rfl⟩
        refine hK.out _ _ trivial (fun HS => ?_)
        clear hK K
        try simp only [Act.put, List.setIfInBounds_toArray, List.set_cons_zero, List.set_cons_succ]
        refine wpAnyH_ready (rs := [4, 6]) (by kernel_rfl) (by simp) ?_
        refine (AllReadyH.cons (o := ?oc4) ?hoc4 (fun K hK => ?stepc4) (AllReadyH.cons (o := ?oc6) ?hoc6 (fun K hK => ?stepc6) AllReadyH.nil))
        case hoc4 => simp only [List.getElem?_toArray, List.getElem?_cons_succ, List.getElem?_cons_zero]; exact rfl
        case hoc6 => simp only [List.getElem?_toArray, List.getElem?_cons_succ, List.getElem?_cons_zero]; exact rfl
        case stepc4 =>
          go_simp
          refine hK.out _ _ trivial (fun HS => ?_)
          clear hK K
          try simp only [Act.put, List.setIfInBounds_toArray, List.set_cons_zero, List.set_cons_succ]
          refine wpAnyH_ready (rs := [6]) (by kernel_rfl) (by simp) ?_
          refine AllReadyH.cons (o := ?ob6) ?hob6 (fun K hK => ?stepb6) AllReadyH.nil
          case hob6 => simp only [List.getElem?_toArray, List.getElem?_cons_succ, List.getElem?_cons_zero]; exact rfl
          go_simp
          refine hK.out _ _ trivial (fun HS => ?_)
          clear hK K
          try simp only [Act.put, List.setIfInBounds_toArray, List.set_cons_zero, List.set_cons_succ]
          refine wpAnyH_ready (rs := [7]) (by kernel_rfl) (by simp) ?_
          refine AllReadyH.cons (o := ?ob7) ?hob7 (fun K hK => ?stepb7) AllReadyH.nil
          case hob7 => simp only [List.getElem?_toArray, List.getElem?_cons_succ, List.getElem?_cons_zero]; exact rfl
          rw [if_pos (by rfl)]
          refine wp_append_s _ _ rfl A j c (ksc j zero) rfl O3.out w2.heap.size rfl (.string (str (pad []))) R3.out rfl (by have := HLT.out; have := H2.out; omega) ?_
          intro A6 c6 w6 ho6 hg6 hA6
          have HN6 : Hid (RNew w (w6.setCell ⟨g, 0, none⟩ (.slice A6 (j + 1) c6)) g (j + 1) A6 c6) := hid (HN1.out.next ho6 hg6 hA6)
          have f6 := (HN1.out.blk6 hg6).frozen 0
          have x6 := (HN1.out.blk6 hg6).cell 0
          simp at x6
          clear ho6 hg6 hA6 O3 R3 HN1 x0 x9
          refine hK.out _ _ trivial (fun HS => ?_)
          clear hK K
          try simp only [Act.put, List.setIfInBounds_toArray, List.set_cons_zero, List.set_cons_succ]
          refine wpAnyH_take (i := 8) (oi := ?oib8) (v := ?vb8) ?hib8 (by kernel_rfl) (by kernel_rfl) (by kernel_rfl) ?hQb8 ?hyb8 HS ?restb8
          case hib8 => simp only [List.getElem?_toArray, List.getElem?_cons_succ, List.getElem?_cons_zero]; exact rfl
          case hQb8 => exact fun _ _ _ h => h
          case hyb8 =>
            refine Or.inl ⟨by rfl, ?_⟩
            intro wS hSw
            go_simp
            try with_reducible rfl
          try simp only [Act.put, List.setIfInBounds_toArray, List.set_cons_zero, List.set_cons_succ]
          refine wpAnyH_take (i := 9) (oi := ?oib9) (v := ?vb9) ?hib9 (by kernel_rfl) (by kernel_rfl) (by kernel_rfl) ?hQb9 ?hyb9 HS ?restb9
          case hib9 => simp only [List.getElem?_toArray, List.getElem?_cons_succ, List.getElem?_cons_zero]; exact rfl
          case hQb9 => exact fun _ _ _ h => h
          case hyb9 =>
            refine Or.inl ⟨by rfl, ?_⟩
            intro wS hSw
            go_simp
            try with_reducible rfl
          try simp only [Act.put, List.setIfInBounds_toArray, List.set_cons_zero, List.set_cons_succ]
          refine wpAnyH_ready (rs := [10]) (by kernel_rfl) (by simp) ?_
          refine AllReadyH.cons (o := ?ob10) ?hob10 (fun K hK => ?stepb10) AllReadyH.nil
          case hob10 => simp only [List.getElem?_toArray, List.getElem?_cons_succ, List.getElem?_cons_zero]; exact rfl
          rw [if_pos (by rfl)]
          go_simp
          refine hK.out _ _ trivial (fun HS => ?_)
          clear hK K
          try simp only [Act.put]
          refine wpAnyH_done (by kernel_rfl) ?_ _
          generalize w6.setCell ⟨g, 0, none⟩ (.slice A6 (j + 1) c6) = w7 at *
          go_wp2
          exact ⟨⟨j + 1, A6, c6, congrArg (Value.int .i64) (by first | exact wj | omega), hid HLT.out, HN6⟩, by (try rw [wj]); have := HLT.out; simp [intOf]; omega⟩
        case stepc6 =>
          go_simp
          refine hK.out _ _ trivial (fun HS => ?_)
          clear hK K
          try simp only [Act.put, List.setIfInBounds_toArray, List.set_cons_zero, List.set_cons_succ]
          refine wpAnyH_ready (rs := [4]) (by kernel_rfl) (by simp) ?_
          refine AllReadyH.cons (o := ?od4) ?hod4 (fun K hK => ?stepd4) AllReadyH.nil
          case hod4 => simp only [List.getElem?_toArray, List.getElem?_cons_succ, List.getElem?_cons_zero]; exact rfl
          go_simp
          refine hK.out _ _ trivial (fun HS => ?_)
          clear hK K
          try simp only [Act.put, List.setIfInBounds_toArray, List.set_cons_zero, List.set_cons_succ]
          refine wpAnyH_ready (rs := [7]) (by kernel_rfl) (by simp) ?_
          refine AllReadyH.cons (o := ?od7) ?hod7 (fun K hK => ?stepd7) AllReadyH.nil
          case hod7 => simp only [List.getElem?_toArray, List.getElem?_cons_succ, List.getElem?_cons_zero]; exact rfl
          rw [if_pos (by rfl)]
          refine wp_append_s _ _ rfl A j c (ksc j zero) rfl O3.out w2.heap.size rfl (.string (str (pad []))) R3.out rfl (by have := HLT.out; have := H2.out; omega) ?_
          intro A6 c6 w6 ho6 hg6 hA6
          have HN6 : Hid (RNew w (w6.setCell ⟨g, 0, none⟩ (.slice A6 (j + 1) c6)) g (j + 1) A6 c6) := hid (HN1.out.next ho6 hg6 hA6)
          have f6 := (HN1.out.blk6 hg6).frozen 0
          have x6 := (HN1.out.blk6 hg6).cell 0
          simp at x6
          clear ho6 hg6 hA6 O3 R3 HN1 x0 x9
          refine hK.out _ _ trivial (fun HS => ?_)
          clear hK K
          try simp only [Act.put, List.setIfInBounds_toArray, List.set_cons_zero, List.set_cons_succ]
          refine wpAnyH_take (i := 8) (oi := ?oid8) (v := ?vd8) ?hid8 (by kernel_rfl) (by kernel_rfl) (by kernel_rfl) ?hQd8 ?hyd8 HS ?restd8
          case hid8 => simp only [List.getElem?_toArray, List.getElem?_cons_succ, List.getElem?_cons_zero]; exact rfl
          case hQd8 => exact fun _ _ _ h => h
          case hyd8 =>
            refine Or.inl ⟨by rfl, ?_⟩
            intro wS hSw
            go_simp
            try with_reducible rfl
          try simp only [Act.put, List.setIfInBounds_toArray, List.set_cons_zero, List.set_cons_succ]
          refine wpAnyH_take (i := 9) (oi := ?oid9) (v := ?vd9) ?hid9 (by kernel_rfl) (by kernel_rfl) (by kernel_rfl) ?hQd9 ?hyd9 HS ?restd9
          case hid9 => simp only [List.getElem?_toArray, List.getElem?_cons_succ, List.getElem?_cons_zero]; exact rfl
          case hQd9 => exact fun _ _ _ h => h
          case hyd9 =>
            refine Or.inl ⟨by rfl, ?_⟩
            intro wS hSw
            go_simp
            try with_reducible rfl
          try simp only [Act.put, List.setIfInBounds_toArray, List.set_cons_zero, List.set_cons_succ]
          refine wpAnyH_ready (rs := [10]) (by kernel_rfl) (by simp) ?_
          refine AllReadyH.cons (o := ?od10) ?hod10 (fun K hK => ?stepd10) AllReadyH.nil
          case hod10 => simp only [List.getElem?_toArray, List.getElem?_cons_succ, List.getElem?_cons_zero]; exact rfl
          rw [if_pos (by rfl)]
          go_simp
          refine hK.out _ _ trivial (fun HS => ?_)
          clear hK K
          try simp only [Act.put]
          refine wpAnyH_done (by kernel_rfl) ?_ _
          generalize w6.setCell ⟨g, 0, none⟩ (.slice A6 (j + 1) c6) = w7 at *
          go_wp2
          exact ⟨⟨j + 1, A6, c6, congrArg (Value.int .i64) (by first | exact wj | omega), hid HLT.out, HN6⟩, by (try rw [wj]); have := HLT.out; simp [intOf]; omega⟩
    · have HJ : Hid (j = n) := hid (by have := hj.out; omega)
      have j3 : decide ((j : Int) < (n : Int)) = false := by simp; omega
      have j4 : decide (j < n) = false := by simp; omega
      go_wp2
      go_ret
      have hN' := hN.out
      rw [HJ.out] at hN'
      obtain ⟨kb, rfl, hlt, -⟩ := own_range hN'.kept (by have := H1.out; omega)
      have hA := hN'.A0 kb rfl
      have hgw := hN'.g0
      have hgl := hN'.blk.lt
      exact ⟨g, fun j => w.heap.size ≤ j ∧ j < wr.heap.size, rfl, ⟨kb, c, none, 0, hN'.blk, hN'.kept, ⟨rfl, .inl ⟨rfl, rfl⟩⟩, by omega, by omega, fun b hb => (by cases hb), by omega, fun j hj => hj.2, St.ok_new H1.out H2.out⟩, HGE.out ▸ hN'.bel, fun j hj => by have := hj.1; have := HGE.out; omega⟩
end Go.Proofs.Ytdgcoipflenlgaa
