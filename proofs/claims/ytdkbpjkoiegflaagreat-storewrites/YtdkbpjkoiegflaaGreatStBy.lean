/- What store.byNames returns: the blobs of a map, names rising. Nothing is assumed. -/
import Derived.Test.YtdkbpjkoiegflaaGreatStIt
import Derived.Test.YtdkbpjkoiegflaaGreatStDr
namespace Go.Proofs.YtdkbpjkoiegflaaGreat
open Go.RowKit

theorem Tryz.infoBlob : (Tryz.prog.info? 90).map (fun i => (i.zero, i.size, i.bytes)) = some (some (.agg #[.string (str (bb0).nm), .int .i64 (bb0).k.t, .int .i64 (bb0).k.c, .int .i64 (bb0).k.e, .int .i64 (bb0).b, .int .i64 (bb0).p.k.t, .int .i64 (bb0).p.k.c, .int .i64 (bb0).p.k.e, .int .i64 (bb0).p.id, .int .i64 (bb0).p.ver, .int .i64 (bb0).sz]), 11, 96) := by kernel_rfl
theorem getB_at {L : List Bb} (hr : L.Pairwise risen) {j : Nat} (hj : j < L.length) : getB L L[j].nm = L[j] := by
  unfold getB
  rw [fnd_mem hr (List.getElem_mem _)]
  rfl
theorem bcs_snoc {l : List Bb} {j : Nat} (hj : j < l.length) : bcs (l.take (j + 1)) = bcs (l.take j) ++ l[j].cells := by
  unfold bcs
  rw [List.take_succ_eq_append_getElem hj, List.flatMap_append]
  show _ ++ (l[j].cells ++ []) = _
  rw [List.append_nil]
/-- Rows of unlike types lie in unlike blocks. -/
theorem own_ne {w : World} {b1 b2 z1 z2 n1 n2 c1 c2 : Nat} {e1 e2 : TypeId} {A1 A2 : Option Addr} {xs ys : List Value} (h1 : w.ownsRow b1 e1 z1 (.slice A1 n1 c1) n1 xs) (h2 : w.ownsRow b2 e2 z2 (.slice A2 n2 c2) n2 ys) (he : e1 ≠ e2) : ∀ x, A1.map (·.block) = some x → A2.map (·.block) ≠ some x := by
  intro x hx1 hx2
  rcases h1.2 with ⟨hv, _⟩ | ⟨g, cap, cur, hv, _, hg, _⟩
  · injection hv with hA; subst hA; cases hx1
  · injection hv with hA
    subst hA
    rcases h2.2 with ⟨hv2, _⟩ | ⟨g2, cap2, cur2, hv2, _, hg2, _⟩
    · injection hv2 with hA2; subst hA2; cases hx2
    · injection hv2 with hA2
      subst hA2
      simp at hx1 hx2
      subst hx1 hx2
      have := hg.symm.trans hg2
      injection this with this
      injection this with _ h3 _
      exact he h3
/-- append(l, x) of one blob. -/
theorem wpList_appB (w0 : World) {ops : Array Oper} {rest : List Oper} {o : Oper} {a : Act} {Q : Exit → Act → World → Prop} (hgd : o.guard = none) (s x : Operand)
    (ho : o.op = .call { callee := .builtin .append, args := #[s, x], argTypes := #[71, 71] })
    (base : Nat) (A : Option Addr) (c : Nat) (l : List Bb) (n : Nat) (hn : l.length = n) (hs : a.eval s = .slice A n c) (hown : w0.ownsRow base 90 11 (.slice A n c) n (bcs l)) (y : Bb)
    (q : Nat) (hq : w0.heap.size = q) (hx : a.eval x = .slice (some ⟨q, 0, none⟩) 1 1) (hl : n ≤ 1000000) (hbase : base ≤ w0.heap.size)
    (h : ∀ A' c' w', w'.ownsRow base 90 11 (.slice A' (n + 1) c') (n + 1) (bcs l ++ y.cells) → Below base w0 w' → w0.grownBy w' (A.map (·.block)) → wpList Tryz.prog ops Q rest (a.put o.dst (.slice A' (n + 1) c')) w') :
    wpList Tryz.prog ops Q (o :: rest) a (w0.alloc (.cells #[.string (str (y).nm), .int .i64 (y).k.t, .int .i64 (y).k.c, .int .i64 (y).k.e, .int .i64 (y).b, .int .i64 (y).p.k.t, .int .i64 (y).p.k.c, .int .i64 (y).p.k.e, .int .i64 (y).p.id, .int .i64 (y).p.ver, .int .i64 (y).sz] 90)) := by
  subst hq
  obtain ⟨i, hi, hz0, hz1, hz2⟩ := info_parts Tryz.infoBlob
  have hk := Blk.new w0 90 #[.string (str (y).nm), .int .i64 (y).k.t, .int .i64 (y).k.c, .int .i64 (y).k.e, .int .i64 (y).b, .int .i64 (y).p.k.t, .int .i64 (y).p.k.c, .int .i64 (y).p.k.e, .int .i64 (y).p.id, .int .i64 (y).p.ver, .int .i64 (y).sz]
  refine wpList_append_own_at _ hgd s x 71 ho base 90 i (.agg #[.string (str (bb0).nm), .int .i64 (bb0).k.t, .int .i64 (bb0).k.c, .int .i64 (bb0).k.e, .int .i64 (bb0).b, .int .i64 (bb0).p.k.t, .int .i64 (bb0).p.k.c, .int .i64 (bb0).p.k.e, .int .i64 (bb0).p.id, .int .i64 (bb0).p.ver, .int .i64 (bb0).sz]) 11 96 Tryz.underlying71 hi hz0 hz1 hz2 rfl (by omega) _ n (bcs l) hs (hown.alloc _) ⟨w0.heap.size, 0, none⟩ 1 1 y.cells hx rfl (fun j u hu => ?_) (bb_cell y) (by unfold maxLen; omega) (by omega) (by simp; omega) ?_
  · rw [add_plain, hk.cell, Nat.zero_add]
    exact (show (y.cells.toArray)[j]? = some u by rw [List.getElem?_toArray]; exact hu)
  intro v' w' hown' hgr _ _
  have h2 : (Value.slice A n c).ownBlock = A.map (·.block) := by cases A <;> rfl
  rw [h2] at hgr
  have h3 : ∃ A' c', v' = .slice A' (n + 1) c' := by
    rcases hown'.2 with ⟨_, h0⟩ | ⟨g, cap, cur, hv', _⟩
    · omega
    · exact ⟨_, _, hv'⟩
  obtain ⟨A', c', rfl⟩ := h3
  have hg2 : w0.grownBy w' (A.map (·.block)) := (World.grownBy_alloc w0 _ _).trans hgr
  exact h A' c' w' hown' (grown_below hg2 hbase fun k hk => (hown.lt k (by rw [h2]; exact hk)).1) hg2
set_option maxRecDepth 100000 in
set_option maxHeartbeats 2000000 in
theorem byNames_c (b : Nat) (L : List Bb) (w : World) (h : BMp w b L) (hr : L.Pairwise risen) (hl : L.length ≤ 1000000) (hn : ∀ x ∈ L, x.nm.length ≤ maxLen) :
    Calls Tryz.prog 66 #[.map (some b)] w fun e w' => ∃ A c, e = .returned (.slice A L.length c) ∧ BRow 90 w' w.heap.size A c L ∧ Below w.heap.size w w' := by
  have HM := hid h
  have HR := hid hr
  have HL := hid hl
  have hlen := h.len
  have HG : Hid (∀ w' : World, Below w.heap.size w w' → ∀ x ∈ L, (Instr.lookup 122 (.map (some b)) (.string (str x.nm)) false).run Tryz.prog w' = .ok (.agg #[.string (str (x).nm), .int .i64 (x).k.t, .int .i64 (x).k.c, .int .i64 (x).k.e, .int .i64 (x).b, .int .i64 (x).p.k.t, .int .i64 (x).p.k.c, .int .i64 (x).p.k.e, .int .i64 (x).p.id, .int .i64 (x).p.ver, .int .i64 (x).sz]) w') := hid fun w' hb x hx => by
    have := (h.bel hb).get (hn x hx)
    unfold getB at this
    rw [fnd_mem hr hx] at this
    exact this
  obtain ⟨i0, hi, hz0, hz1, hz2⟩ := info_parts Tryz.infoBlob
  have HSK := hid fun (w1 : World) (h1 : BMp w1 b L) => sortedKeys_c b L w1 h1 hr hl
  clear h hr hn
  obtain ⟨n, hLn⟩ : ∃ n, L.length = n := ⟨_, rfl⟩
  rw [hLn] at hlen hl
  have HLN := hid hLn
  rw [hLn] at HSK
  rw [hLn]
  clear hLn
  go_enter Tryz.func66, Tryz.ntmps66
  go_wp2_with (at_make; refine wpList_make_own _ rfl _ _ 71 rfl w.heap.size 90 i0 (.agg #[.string (str (bb0).nm), .int .i64 (bb0).k.t, .int .i64 (bb0).k.c, .int .i64 (bb0).k.e, .int .i64 (bb0).b, .int .i64 (bb0).p.k.t, .int .i64 (bb0).p.k.c, .int .i64 (bb0).p.k.e, .int .i64 (bb0).p.id, .int .i64 (bb0).p.ver, .int .i64 (bb0).sz]) 11 Tryz.underlying71 hi hz0 hz1 .i64 .i64 (n : Int) n rfl rfl rfl (by rw [hz2]; omega) (by unfold maxLen; omega) (Nat.le_refl _) ?_)
  intro w1 ho1 hg1
  have HO1 := hid ho1
  have HB1 : Hid (Below w.heap.size w w1) := hid (grown_below hg1 (Nat.le_refl _) (fun k hk => by cases hk))
  have hk1 := keysOf_c b w1
  have hs1 := HSK.out w1 (HM.out.bel HB1.out)
  clear ho1 hg1 hlen HM hi hz0 hz1 hz2
  go_wp2_with fail
  refine hk1.mono ?_
  rintro e w2 ⟨rfl, rfl⟩
  go_wp2_with fail
  refine hs1.mono ?_
  rintro e w2 ⟨A2, c2, rfl, ho2, hb2⟩
  have HO2 := hid ho2
  have HB2 := hid (HB1.out.trans (hb2.mono HB1.out.size))
  have HR2 : Hid (w2.ownsRow w.heap.size 90 11 (.slice (some ⟨w.heap.size, 0, none⟩) 0 n) 0 (bcs (L.take 0))) := hid (by
    have := World.ownsRow.below HO1.out hb2
    simpa [bcs] using this)
  have HS2 : Hid (w1.heap.size ≤ w2.heap.size) := hid hb2.size
  clear hk1 hs1 ho2 hb2 HO1 HSK
  go_wp2_with fail
  go_loopg [3, 13] n (fun kk bv iv wr => ∃ (j : Nat) (A3 : Option Addr) (d3 : Nat), bv = .slice A3 j d3 ∧ iv = .int .i64 (j : Int) ∧ Hid (kk = n - j) ∧ Hid (j ≤ n) ∧ Hid (wr.ownsRow w.heap.size 90 11 (.slice A3 j d3) j (bcs (L.take j))) ∧ Hid (Below w.heap.size w wr) ∧ Hid (wr.ownsRow w1.heap.size 9 1 (.slice A2 n c2) n ((L.map Bb.nm).map fun l => .string (str l))))
  case atStart => exact ⟨0, _, n, rfl, rfl, hid (by omega), hid (Nat.zero_le _), HR2, HB2, HO2⟩
  case round =>
  obtain ⟨j, A3, d3, rfl, rfl, hgk, hj, hR, hB, hO⟩ := hrel
  clear HR2 HB2 HO2
  rcases Nat.lt_or_ge j n with hlt | hge
  · have HLT := hid hlt
    have hjl : j < L.length := by rw [HLN.out]; exact hlt
    have hr0 : ∃ b2, A2 = some ⟨b2, 0, none⟩ ∧ wr.cell? ⟨b2, j, none⟩ = some (.string (str L[j].nm)) := by
      obtain ⟨b2, e1, e2, e3⟩ := own_range hO.out (by omega)
      refine ⟨b2, e1, ?_⟩
      have := e3 j (.string (str L[j].nm)) (by rw [List.getElem?_map, List.getElem?_map, List.getElem?_eq_getElem hjl]; rfl)
      rwa [Nat.zero_add] at this
    obtain ⟨b2, rfl, hc0⟩ := hr0
    have hget := HG.out wr hB.out L[j] (List.getElem_mem _)
    have HSN := hid (bcs_snoc hjl)
    have HTL : Hid ((L.take j).length = j) := hid (by rw [List.length_take]; omega)
    generalize L[j] = x at *
    have j1 : (0 : Int) ≤ (j : Int) := by omega
    have j2 : (j : Int) < (n : Int) := by omega
    have j3 : decide ((j : Int) < (n : Int)) = true := by simpa using hlt
    have j4 : decide (j < n) = true := by simpa using hlt
    have wj : wrap64 ((j : Int) + 1) = ((j + 1 : Nat) : Int) := by unfold wrap64; omega
    clear hlt hjl
    have hS : w.heap.size ≤ wr.heap.size := hB.out.size
    go_wp2_with (at_builtin; refine wpList_appB wr rfl _ _ rfl w.heap.size A3 d3 (L.take j) j HTL.out rfl hR.out x wr.heap.size rfl rfl (by omega) hS ?_)
    intro A4 d4 w4 hO4 hb4 hg4
    have HO4 : Hid (w4.ownsRow w.heap.size 90 11 (.slice A4 (j + 1) d4) (j + 1) (bcs (L.take (j + 1)))) := hid (by rw [HSN.out]; exact hO4)
    have HB4 := hid (hB.out.trans hb4)
    have HN4 := hid (own_keep hO.out (fun x hx => hg4.block x (own_lt hO.out x hx) (fun e => own_ne hO.out hR.out (by decide) x hx e.symm)))
    clear hO4 hb4 hg4 hR hB hO hget hS
    go_wp2_with fail
    go_roundg (n - (j + 1))
    case measure => have := hgk.out; have := HLT.out; omega
    case rel => exact ⟨j + 1, A4, d4, rfl, rfl, hid rfl, hid HLT.out, HO4, HB4, HN4⟩
  · have hjn : j = n := by have := hj.out; omega
    subst hjn
    have j2 : ¬ (j : Int) < (j : Int) := by omega
    have HF : Hid (BRow 90 wr w.heap.size A3 d3 L) := hid (by
      have := hR.out
      rw [← HLN.out, List.take_length] at this
      exact this)
    clear hge hj hgk hR hO
    go_wp2
    go_ret
    exact ⟨A3, d3, rfl, HF.out, hB.out⟩
end Go.Proofs.YtdkbpjkoiegflaaGreat
