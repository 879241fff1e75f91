/- What Seal of the document's vault does; append of a whole slice of structs behind a row of the call's own. -/
import Derived.Test.YtaailoodhaibiaaVrOpen
namespace Go.Proofs.Ytaailoodhaibiaa
open Go.RowKit

theorem own_formz {w : World} {base : Nat} {e : TypeId} {z n : Nat} {v : Value} {xs : List Value} (h : w.ownsRow base e z v n xs) : ∃ A c, v = .slice A n c ∧ n ≤ c := by
  rcases h.2 with ⟨rfl, rfl⟩ | ⟨g, cap, cur, rfl, _, _, hnc, _⟩
  · exact ⟨none, 0, rfl, Nat.le_refl _⟩
  · exact ⟨_, _, rfl, hnc⟩
/-- What an append leaves: where the row lies, what else turned. -/
def Grew (base : Nat) (e : TypeId) (z : Nat) (w w' : World) (A A' : Option Addr) (n c : Nat) (xs : List Value) : Prop := w'.ownsRow base e z (.slice A' n c) n xs ∧ n ≤ c ∧ w.grownBy w' (A.map (·.block)) ∧ Lies A A' w.heap.size
/-- append(s, t...) of elements of z cells, behind a row of the call's own; also where t is empty. -/
theorem run_append_L {P : Program} (w : World) (t ty e : TypeId) (z0 : Value) (z by_ : Nat) (ht : P.underlying t = some (.slice e)) (hi : (P.info? e).map (fun i => (i.zero, i.size, i.bytes)) = some (some z0, z, by_)) (hz : z0.cells.size = z) (hz1 : 0 < z)
    (base : Nat) (A : Option Addr) (n c : Nat) (xs : List Value) (hown : w.ownsRow base e z (.slice A n c) n xs) (A2 : Option Addr) (m c2 : Nat)
    (news : List Value) (hl : news.length = m * z) (hr : 0 < m → ∃ b off, A2 = some ⟨b, off, none⟩ ∧ w.rangeAt b off news) (h1 : ∀ u ∈ news, u.oneCell' = true) (hn : (n + m) * by_ ≤ 140737488355328) (hn2 : n + m ≤ maxLen) (hbase : base ≤ w.heap.size) :
    ∃ A' c' w', (Builtin.append_ #[t, t] ty #[.slice A n c, .slice A2 m c2]).run P w = .ok (.slice A' (n + m) c') w' ∧ Grew base e z w w' A A' (n + m) c' (xs ++ news) := by
  obtain ⟨i, hi, hz0, hz1', hz2⟩ := info_parts hi
  have hv : (Value.slice A n c).ownBlock = A.map (·.block) := by cases A <;> rfl
  rcases Nat.eq_zero_or_pos m with h0 | h0
  · subst h0
    have hnil : news = [] := List.eq_nil_of_length_eq_zero (by simpa using hl)
    subst hnil
    obtain ⟨A3, c3, h3, hc3⟩ := own_formz hown
    injection h3 with h3 _ h4
    subst h3 h4
    refine ⟨A, c, w, ?_, by simpa using hown, hc3, grown_refl _ _, fun d hd => .inl hd⟩
    cases A <;> cases A2 <;> simp [Builtin.append_, run_underlying ht, sizeOf, typeInfo, hi, Builtin.lenOf, Builtin.firstCells, loadCells, loadCellsFrom, storeCells, hc3]
  · obtain ⟨b, off, rfl, hrr⟩ := hr h0
    obtain ⟨v', w', hrun, h2, h3, _, h5⟩ := run_append_own_at (P := P) w base t ty e i z0 z by_ ht hi hz0 hz1' hz2 hz hz1 _ n xs hown ⟨b, off, none⟩ m c2 news hl (fun j u hu => by rw [add_plain]; exact hrr j u hu) h1 hn2 hn hbase
    obtain ⟨A', c', rfl, hc'⟩ := own_formz h2
    have hv2 : (Value.slice A' (n + m) c').ownBlock = A'.map (·.block) := by cases A' <;> rfl
    rw [hv] at h3 h5
    rw [hv2] at h5
    exact ⟨A', c', w', hrun, h2, hc', h3, fun d hd => by
      rcases h5 with h5 | h5
      · exact .inl (h5 ▸ hd)
      · rw [h5] at hd; injection hd with hd; exact .inr hd.symm⟩
theorem wp_append_run {op : Oper} {a : Act} {w w' : World} {K : Act → World → Prop} {Q : Exit → Act → World → Prop} (t : TypeId) (s x : Operand) (ho : op.op = .call { callee := .builtin .append, args := #[s, x], argTypes := #[t, t] }) (vs vx v' : Value) (hs : a.eval s = vs) (hx : a.eval x = vx)
    (hrun : (Builtin.append_ #[t, t] op.type #[vs, vx]).run Try.prog w = .ok v' w') (h : K (a.put op.dst v') w') : op.wp Try.prog a w K Q := by
  unfold Oper.wp execOp
  simp only [ho, resolve, invoke, builtin, Sem.run_bind, Sem.run_pure, Result.andThen_ok, List.map_toArray, List.map_cons, List.map_nil, hs, hx, hrun]
  exact h
theorem run_buildSlice0 {P : Program} (w : World) (t e : TypeId) (hu : P.underlying t = some (.slice e)) (hi : (P.info? e).isSome = true) : (Instr.buildSlice t 0 #[]).run P w = .ok (.slice (some ⟨w.heap.size, 0, none⟩) 0 0) (w.alloc (.cells #[] e)) := by
  obtain ⟨ie, hie⟩ := Option.isSome_iff_exists.1 hi
  simp [Instr.buildSlice, run_underlying hu, sizeOf, typeInfo, hie, newRow, Instr.fill]
  rw [show (Array.map (fun _ => default) (Array.range 0) : Array Value) = #[] from Array.eq_empty_of_size_eq_zero (by simp)]
theorem wp_buildSlice0 {op : Oper} {a : Act} {w : World} {K : Act → World → Prop} {Q : Exit → Act → World → Prop} (t e : TypeId) (ho : op.op = .buildSlice t 0 #[]) (hu : Try.prog.underlying t = some (.slice e)) (hi : (Try.prog.info? e).isSome = true)
    (h : K (a.put op.dst (.slice (some ⟨w.heap.size, 0, none⟩) 0 0)) (w.alloc (.cells #[] e))) : op.wp Try.prog a w K Q := by
  unfold Oper.wp execOp
  simp only [ho, List.map_toArray, List.map_nil, Sem.run_bind, run_buildSlice0 w t e hu hi, Result.andThen_ok]
  exact h
theorem own_empty (w : World) (e : TypeId) (z base : Nat) (hb : base ≤ w.heap.size) : (w.alloc (.cells #[] e)).ownsRow base e z (.slice (some ⟨w.heap.size, 0, none⟩) 0 0) 0 [] :=
  ⟨by simp, .inr ⟨w.heap.size, 0, #[], rfl, hb, Blk.new w e #[], Nat.le_refl _, by unfold maxLen; omega, by simp, by simp⟩⟩
theorem own_ltb {w : World} {base : Nat} {e : TypeId} {z n c : Nat} {A : Option Addr} {xs : List Value} (h : w.ownsRow base e z (.slice A n c) n xs) (b : Nat) (hb : A.map (·.block) = some b) : base ≤ b := own_ge h b hb

/-- The document's vault with an entry more. -/
theorem RVAt.sealed {w w5 : World} {F : Nat → Prop} {g : Nat} {s : Va} {A : Option Addr} {c : Nat} {B : Option Addr} {d : Nat} (h : RVAt w F g s A c B d) (x : En) (hb : Below w.heap.size w w5) {A5 : Option Addr} {c5 : Nat}
    (ho : w5.ownsRow w.heap.size 51 5 (.slice A5 (s.L.length + 1) c5) (s.L.length + 1) (recs s.L ++ rec5 x)) :
    RVLeft w (w5.setCell ⟨g, 0, none⟩ (.slice A5 (s.L.length + 1) c5)) F g ⟨s.L ++ [x], s.G⟩ := by
  have hg6 := grown_setCell w5 g 0 (.slice A5 (s.L.length + 1) c5)
  have s5 := hb.size
  have s6 := hg6.size
  have lg := h.F g h.Fg
  have k6 : ∀ j, j < w5.heap.size → j ≠ g → (w5.setCell ⟨g, 0, none⟩ (.slice A5 (s.L.length + 1) c5)).heap[j]? = w5.heap[j]? := fun j hj hne => hg6.block j hj (fun e => hne (by injection e))
  refine ⟨fun j => (F j ∨ w.heap.size ≤ j) ∧ j < w5.heap.size, ⟨A5, c5, B, d, ?_, ?_, ?_, fun b hb' => ?_, fun b hb' => ?_, ⟨.inl h.Fg, by omega⟩, fun j hj => by have := hj.2; omega⟩, ?_, fun j hj => hj.1⟩
  · show Blk _ g _ #[.slice A5 (s.L ++ [x]).length c5, _]
    rw [List.length_append]
    exact (h.blk.keep (hb.block g lg)).store 0 (.slice A5 (s.L.length + 1) c5)
  · show World.ownsRow _ 0 _ 5 (.slice A5 (s.L ++ [x]).length c5) (s.L ++ [x]).length (recs (s.L ++ [x]))
    rw [List.length_append, recs_app, recs_one]
    exact own_keep (own_lower ho (Nat.zero_le _)) fun b hb' => k6 b (own_lt ho b hb') (by have := own_ge ho b hb'; omega)
  · exact h.gon.keep fun b hb' => by
      have := h.F b (h.Bg b hb').2
      exact (k6 b (by omega) (h.Bg b hb').1).trans (hb.block b this)
  · have h1 := own_ge ho b hb'
    have h2 := own_lt ho b hb'
    exact ⟨by omega, ⟨.inr h1, h2⟩, fun e => by have := h.F b (h.Bg b e).2; omega⟩
  · have := h.F b (h.Bg b hb').2
    exact ⟨(h.Bg b hb').1, .inl (h.Bg b hb').2, by omega⟩
  · exact ⟨hg6.os.trans hb.os, hg6.tape.trans hb.tape, hg6.output.trans hb.output, by omega, fun j hj hF =>
      (k6 j (by omega) (fun e => hF (e ▸ h.Fg))).trans (hb.block j hj)⟩
theorem built_en (k : Ky) (s p : ByteArray) : Try.prog.built 51 [(0, (.agg #[.int .i64 (k).t, .int .i64 (k).c, .int .i64 (k).e])), (1, .string s), (2, .string p)] = some #[.int .i64 k.t, .int .i64 k.c, .int .i64 k.e, .string s, .string p] := by kernel_rfl
theorem filled_en (k : Ky) (s p : ByteArray) : Instr.fill (fun j => some (j * 5, 5)) ((Array.range (1 * 5)).map ((#[.int .i64 0, .int .i64 0, .int .i64 0, .string ⟨#[]⟩, .string ⟨#[]⟩] : Array Value)[· % 5]!)) [(0, .agg #[.int .i64 k.t, .int .i64 k.c, .int .i64 k.e, .string s, .string p])] = some #[.int .i64 k.t, .int .i64 k.c, .int .i64 k.e, .string s, .string p] := by kernel_rfl
theorem Try.isInfoEn : (Try.prog.info? 51).isSome = true := by kernel_rfl

set_option maxRecDepth 20000 in
set_option maxHeartbeats 4000000 in
theorem rseal_c (w : World) (F : Nat → Prop) (g : Nat) (s : Va) (h : RVt w F g s) (k : Ky) (b p : List UInt8) (hG : s.G.length ≤ 1000000) (hL : s.L.length ≤ 1000000) :
    Calls Try.prog 10 #[.pointer (some ⟨g, 0, none⟩), (.agg #[.int .i64 (k).t, .int .i64 (k).c, .int .i64 (k).e]), .string (str b), .string (str p)] w fun e w' => e = .returned (.tuple #[.int .u64 (seH s k p.length : Int), .int .i64 (seE s k p.length)]) ∧ RVLeft w w' F g (seS s k b p) := by
  have hb0 : Below w.heap.size w (w.alloc (.cells #[.int .i64 k.t, .int .i64 k.c, .int .i64 k.e] 32)) := (Below.refl _ _).alloc (Nat.le_refl _) _
  have hK0 := Blk.new w 32 #[.int .i64 k.t, .int .i64 k.c, .int .i64 k.e]
  have hgo := rgone_c _ F g s (h.bel hb0) k hG
  obtain ⟨A, c, B, d, h⟩ := h
  have HH := hid h
  have HB0 := hid hb0
  have HK0 := hid hK0
  have HLL := hid hL
  have hps : (str p).size = p.length := str_size p
  clear h hb0 hK0 hG hL
  by_cases hbad : ¬ k.right ∨ 65536 < p.length
  · have HE : Hid (seE s k p.length = 2) := hid (if_pos hbad)
    have HHd : Hid (seH s k p.length = 0) := hid (if_pos hbad)
    have HS : Hid (seS s k b p = s) := hid (if_pos hbad)
    rw [HE.out, HHd.out, HS.out]
    clear HE HHd HS hgo
    go_enter Try.func10, Try.ntmps10
    by_cases h1 : k.t < 0
    · have e1 : decide (k.t < 0) = true := by simpa using h1
      clear h1 hbad
      as_aux_lemma =>
      go_wp2
      go_ret2
      exact ⟨rfl, RVLeft.same ⟨A, c, B, d, HH.out⟩ HB0.out⟩
    have e1 : decide (k.t < 0) = false := by simpa using h1
    by_cases h2 : k.c < 0
    · have e2 : decide (k.c < 0) = true := by simpa using h2
      clear h1 h2 hbad
      as_aux_lemma =>
      go_wp2
      go_ret2
      exact ⟨rfl, RVLeft.same ⟨A, c, B, d, HH.out⟩ HB0.out⟩
    have e2 : decide (k.c < 0) = false := by simpa using h2
    by_cases h3 : k.e < 0
    · have e3 : decide (k.e < 0) = true := by simpa using h3
      clear h1 h2 h3 hbad
      as_aux_lemma =>
      go_wp2
      go_ret2
      exact ⟨rfl, RVLeft.same ⟨A, c, B, d, HH.out⟩ HB0.out⟩
    have e3 : decide (k.e < 0) = false := by simpa using h3
    have hlen : 65536 < p.length := by
      rcases hbad with hb | hb
      · exact absurd (show k.right from ⟨by omega, by omega, by omega⟩) hb
      · exact hb
    have e4 : decide ((65536 : Int) < (p.length : Int)) = true := by simp; omega
    have e5 : decide (65536 < p.length) = true := by simpa using hlen
    clear h1 h2 h3 hbad hlen
    as_aux_lemma =>
    go_wp2
    go_ret2
    exact ⟨rfl, RVLeft.same ⟨A, c, B, d, HH.out⟩ HB0.out⟩
  have hr : k.right := Classical.byContradiction fun e => hbad (.inl e)
  have e1 : decide (k.t < 0) = false := by have := hr.1; simp; omega
  have e2 : decide (k.c < 0) = false := by have := hr.2.1; simp; omega
  have e3 : decide (k.e < 0) = false := by have := hr.2.2; simp; omega
  have e4 : decide ((65536 : Int) < (p.length : Int)) = false := by simp; omega
  have e5 : decide (65536 < p.length) = false := by simp; omega
  obtain ⟨c0, c1, c2⟩ := blk_cells HK0.out
  by_cases hGG : k ∈ s.G
  · have HE : Hid (seE s k p.length = 50) := hid ((if_neg hbad).trans (if_pos hGG))
    have HHd : Hid (seH s k p.length = 0) := hid ((if_neg hbad).trans (if_pos hGG))
    have HS : Hid (seS s k b p = s) := hid ((if_neg hbad).trans (if_pos hGG))
    rw [HE.out, HHd.out, HS.out]
    rw [decide_eq_true hGG] at hgo
    clear HE HHd HS hbad hr hGG
    go_enter Try.func10, Try.ntmps10
    go_wp2_with fail
    refine hgo.mono ?_
    rintro e w1 ⟨rfl, hb1⟩
    have HB1 := hid (HB0.out.trans (hb1.mono HB0.out.size))
    clear hgo hb1
    go_wp2
    go_ret2
    exact ⟨rfl, RVLeft.same ⟨A, c, B, d, HH.out⟩ HB1.out⟩
  have HE : Hid (seE s k p.length = 0) := hid ((if_neg hbad).trans (if_neg hGG))
  have HHd : Hid (seH s k p.length = s.L.length + 1) := hid ((if_neg hbad).trans (if_neg hGG))
  have HS : Hid (seS s k b p = ⟨s.L ++ [⟨k, b, p⟩], s.G⟩) := hid ((if_neg hbad).trans (if_neg hGG))
  rw [HE.out, HHd.out, HS.out]
  rw [decide_eq_false hGG] at hgo
  have wu : IntKind.u64.wrap ((s.L.length + 1 : Nat) : Int) = ((s.L.length + 1 : Nat) : Int) := wrapu (by omega) (by have := HLL.out; omega)
  clear HE HHd HS hbad hr hGG
  generalize hNN : s.L.length + 1 = NN at *
  have HNN := hid hNN
  clear hNN
  go_enter Try.func10, Try.ntmps10
  go_wp2_with fail
  refine hgo.mono ?_
  rintro e w2 ⟨rfl, hb1⟩
  have HBW := hid (HB0.out.trans (hb1.mono HB0.out.size))
  have HV2 := hid (HH.out.bel HBW.out)
  have HK2 := hid (HK0.out.keep (hb1.block w.heap.size HK0.out.lt))
  have HKW : Hid (w.heap.size < w2.heap.size) := hid HK2.out.lt
  have HGW : Hid (g < w.heap.size) := hid (HH.out.F g HH.out.Fg)
  have HGV : Hid (g < w2.heap.size) := hid (by have := HGW.out; have := HKW.out; omega)
  have yd := HV2.out.cells.1
  clear hgo hb1 HB0 HK0 HH c0 c1 c2 e1 e2 e3 e4 e5 hps
  go_wp2_with fail
  refine wp_region_held_drew (S := fun wx => wx.heap[w.heap.size]? = w2.heap[w.heap.size]?) (by kernel_rfl) rfl (fun HS => ?_)
  have HBs : Hid (Below w2.heap.size w2 w2.drew) := hid (Below.refl _ _).drew
  refine wpAnyH_take (i := 0) (oi := ?oi0) (v := ?v0) ?hi0 (by kernel_rfl) (by kernel_rfl) (by kernel_rfl) ?hQ0 ?hy0 HS ?rest0
  case hi0 => simp only [List.getElem?_toArray, List.getElem?_cons_zero]; exact rfl
  case hQ0 => exact fun _ _ _ h => h
  case hy0 =>
    refine Or.inl ⟨by rfl, ?_⟩
    intro wS hSw
    go_simp
    try with_reducible rfl
  try simp only [Act.put, List.setIfInBounds_toArray, List.set_cons_zero, List.set_cons_succ]
  refine wpAnyH_take (i := 2) (oi := ?oi2) (v := ?v2) ?hi2 (by kernel_rfl) (by kernel_rfl) (by kernel_rfl) ?hQ2 ?hy2 HS ?rest2
  case hi2 => simp only [List.getElem?_toArray, List.getElem?_cons_succ, List.getElem?_cons_zero]; exact rfl
  case hQ2 => exact fun _ _ _ h => h
  case hy2 =>
    refine Or.inl ⟨by rfl, ?_⟩
    intro wS hSw
    go_simp
    try with_reducible rfl
  try simp only [Act.put, List.setIfInBounds_toArray, List.set_cons_zero, List.set_cons_succ]
  refine wpAnyH_take (i := 3) (oi := ?oi3) (v := ?v3) ?hi3 (by kernel_rfl) (by kernel_rfl) (by kernel_rfl) ?hQ3 ?hy3 HS ?rest3
  case hi3 => simp only [List.getElem?_toArray, List.getElem?_cons_succ, List.getElem?_cons_zero]; exact rfl
  case hQ3 => exact fun _ _ _ h => h
  case hy3 =>
    refine Or.inl ⟨by rfl, ?_⟩
    intro wS hSw
    go_simp
    try with_reducible rfl
  try simp only [Act.put, List.setIfInBounds_toArray, List.set_cons_zero, List.set_cons_succ]
  refine wpAnyH_take (i := 4) (oi := ?oi4) (v := ?v4) ?hi4 (by kernel_rfl) (by kernel_rfl) (by kernel_rfl) ?hQ4 ?hy4 HS ?rest4
  case hi4 => simp only [List.getElem?_toArray, List.getElem?_cons_succ, List.getElem?_cons_zero]; exact rfl
  case hQ4 => exact fun _ _ _ h => h
  case hy4 =>
    refine Or.inl ⟨by rfl, ?_⟩
    intro wS hSw
    go_simp
    try with_reducible rfl
  try simp only [Act.put, List.setIfInBounds_toArray, List.set_cons_zero, List.set_cons_succ]
  refine wpAnyH_take (i := 7) (oi := ?oi7) (v := ?v7) ?hi7 (by kernel_rfl) (by kernel_rfl) (by kernel_rfl) ?hQ7 ?hy7 HS ?rest7
  case hi7 => simp only [List.getElem?_toArray, List.getElem?_cons_succ, List.getElem?_cons_zero]; exact rfl
  case hQ7 => exact fun _ _ _ h => h
  case hy7 =>
    refine Or.inl ⟨by rfl, ?_⟩
    intro wS hSw
    have hKS := HK2.out.keep hSw
    obtain ⟨c0, c1, c2⟩ := blk_cells hKS
    go_simp
    try with_reducible rfl
  try simp only [Act.put, List.setIfInBounds_toArray, List.set_cons_zero, List.set_cons_succ]
  refine wpAnyH_take (i := 8) (oi := ?oi8) (v := ?v8) ?hi8 (by kernel_rfl) (by kernel_rfl) (by kernel_rfl) ?hQ8 ?hy8 HS ?rest8
  case hi8 => simp only [List.getElem?_toArray, List.getElem?_cons_succ, List.getElem?_cons_zero]; exact rfl
  case hQ8 => exact fun _ _ _ h => h
  case hy8 =>
    refine Or.inl ⟨by rfl, ?_⟩
    intro wS hSw
    go_simp
    try with_reducible rfl
  try simp only [Act.put, List.setIfInBounds_toArray, List.set_cons_zero, List.set_cons_succ]
  refine wpAnyH_take (i := 9) (oi := ?oi9) (v := ?v9) ?hi9 (by kernel_rfl) (by kernel_rfl) (by kernel_rfl) ?hQ9 ?hy9 HS ?rest9
  case hi9 => simp only [List.getElem?_toArray, List.getElem?_cons_succ, List.getElem?_cons_zero]; exact rfl
  case hQ9 => exact fun _ _ _ h => h
  case hy9 =>
    refine Or.inl ⟨by rfl, ?_⟩
    intro wS hSw
    go_simp
    try with_reducible rfl
  try simp only [Act.put, List.setIfInBounds_toArray, List.set_cons_zero, List.set_cons_succ]
  refine wpAnyH_take (i := 10) (oi := ?oi10) (v := ?v10) ?hi10 (by kernel_rfl) (by kernel_rfl) (by kernel_rfl) ?hQ10 ?hy10 HS ?rest10
  case hi10 => simp only [List.getElem?_toArray, List.getElem?_cons_succ, List.getElem?_cons_zero]; exact rfl
  case hQ10 => exact fun _ _ _ h => h
  case hy10 =>
    refine Or.inl ⟨by rfl, ?_⟩
    intro wS hSw
    refine Eq.trans (exec_build 51 #[(0, .tmp 38), (1, .tmp 39), (2, .tmp 40)] ?_ #[(0, (.agg #[.int .i64 (k).t, .int .i64 (k).c, .int .i64 (k).e])), (1, .string (str b)), (2, .string (str p))] ?_ _ (built_en k (str b) (str p))) ?_
    · rfl
    · simp only [List.map_toArray, List.map_cons, List.map_nil]; rfl
    · with_reducible rfl
  try simp only [Act.put, List.setIfInBounds_toArray, List.set_cons_zero, List.set_cons_succ]
  refine wpAnyH_ready (rs := [1, 5, 11]) (by kernel_rfl) (by simp) ?_
  refine (AllReadyH.cons (o := ?oz1) ?hoz1 (fun K hK => ?stepz1) (AllReadyH.cons (o := ?oz5) ?hoz5 (fun K hK => ?stepz5) (AllReadyH.cons (o := ?oz11) ?hoz11 (fun K hK => ?stepz11) AllReadyH.nil)))
  case hoz1 => simp only [List.getElem?_toArray, List.getElem?_cons_succ, List.getElem?_cons_zero]; exact rfl
  case hoz5 => simp only [List.getElem?_toArray, List.getElem?_cons_succ, List.getElem?_cons_zero]; exact rfl
  case hoz11 => simp only [List.getElem?_toArray, List.getElem?_cons_succ, List.getElem?_cons_zero]; exact rfl
  case stepz1 =>
    rw [if_pos (by rfl)]
    refine wp_buildSlice0 27 51 rfl Try.underlying27 Try.isInfoEn ?_
    have HB1 : Hid (Below w2.heap.size w2 (w2.drew.alloc (.cells #[] 51))) := hid (HBs.out.alloc HBs.out.size _)
    have HR1 : Hid ((w2.drew.alloc (.cells #[] 51)).ownsRow w2.heap.size 51 5 (.slice (some ⟨w2.drew.heap.size, 0, none⟩) 0 0) 0 []) := hid (own_empty _ _ _ _ HBs.out.size)
    generalize hr1 : w2.drew.heap.size = r1 at *
    clear hr1
    generalize hw1 : w2.drew.alloc (.cells #[] 51) = wx1 at *
    clear hw1
    refine hK.out _ _ (HB1.out.block w.heap.size HKW.out) (fun HS => ?_)
    clear hK K
    try simp only [Act.put, List.setIfInBounds_toArray, List.set_cons_zero, List.set_cons_succ]
    refine wpAnyH_ready (rs := [5, 11]) (by kernel_rfl) (by simp) ?_
    refine (AllReadyH.cons (o := ?ozb5) ?hozb5 (fun K hK => ?stepzb5) (AllReadyH.cons (o := ?ozb11) ?hozb11 (fun K hK => ?stepzb11) AllReadyH.nil))
    case hozb5 => simp only [List.getElem?_toArray, List.getElem?_cons_succ, List.getElem?_cons_zero]; exact rfl
    case hozb11 => simp only [List.getElem?_toArray, List.getElem?_cons_succ, List.getElem?_cons_zero]; exact rfl
    case stepzb5 =>
      rw [if_pos (by rfl)]
      refine wp_load_slice 27 (.tmp 35) rfl 51 Try.underlying27 g 0 rfl _ ((World.cell?_of_block (HB1.out.block g HGV.out)).trans yd) ?_
      refine hK.out _ _ (HB1.out.block w.heap.size HKW.out) (fun HS => ?_)
      clear hK K
      try simp only [Act.put, List.setIfInBounds_toArray, List.set_cons_zero, List.set_cons_succ]
      refine wpAnyH_ready (rs := [6, 11]) (by kernel_rfl) (by simp) ?_
      refine (AllReadyH.cons (o := ?ozbf6) ?hozbf6 (fun K hK => ?stepzbf6) (AllReadyH.cons (o := ?ozbf11) ?hozbf11 (fun K hK => ?stepzbf11) AllReadyH.nil))
      case hozbf6 => simp only [List.getElem?_toArray, List.getElem?_cons_succ, List.getElem?_cons_zero]; exact rfl
      case hozbf11 => simp only [List.getElem?_toArray, List.getElem?_cons_succ, List.getElem?_cons_zero]; exact rfl
      case stepzbf6 =>
        rw [if_pos (by rfl)]
        obtain ⟨A2, c2, wx2, hrun2, hgr2⟩ := run_append_L (P := Try.prog) wx1 27 27 51 _ 5 56 Try.underlying27 Try.infoEn rfl (by decide) w2.heap.size (some ⟨r1, 0, none⟩) 0 0 [] HR1.out A s.L.length c (recs s.L) (recs_len _) (fun h0 => by obtain ⟨lb, hA, hlt, hrr⟩ := own_range HV2.out.row h0; exact ⟨lb, 0, hA, rangeAt_keep hrr (HB1.out.block lb hlt)⟩) (recs_cell _) (by have := HLL.out; omega) (by have := HLL.out; unfold maxLen; omega) HB1.out.size
        rw [Nat.zero_add, List.nil_append] at hgr2
        rw [Nat.zero_add] at hrun2
        refine wp_append_run 27 _ _ rfl _ _ _ rfl rfl hrun2 ?_
        have HR2 : Hid (wx2.ownsRow w2.heap.size 51 5 (.slice A2 s.L.length c2) s.L.length (recs s.L)) := hid hgr2.1
        have HB2 : Hid (Below w2.heap.size w2 wx2) := hid (HB1.out.grown hgr2.2.2.1 HB1.out.size (fun d hd => by injection hd with hd; have := own_ge HR1.out r1 rfl; have hd : r1 = d := hd; omega))
        clear hrun2 hgr2
        refine hK.out _ _ (HB2.out.block w.heap.size HKW.out) (fun HS => ?_)
        clear hK K
        try simp only [Act.put, List.setIfInBounds_toArray, List.set_cons_zero, List.set_cons_succ]
        refine wpAnyH_ready (rs := [11]) (by kernel_rfl) (by simp) ?_
        refine AllReadyH.cons (o := ?ozbfg11) ?hozbfg11 (fun K hK => ?stepzbfg11) AllReadyH.nil
        case hozbfg11 => simp only [List.getElem?_toArray, List.getElem?_cons_succ, List.getElem?_cons_zero]; exact rfl
        rw [if_pos (by rfl)]
        obtain ⟨ie, hie, hz0, hz1, hz2⟩ := info_parts Try.infoEn
        refine wp_buildSlice 27 51 1 _ rfl #[.int .i64 k.t, .int .i64 k.c, .int .i64 k.e, .string (str b), .string (str p)] ie _ Try.underlying27 hie hz0 (by rw [hz1]; decide) (by rw [hz1]; decide) (by rw [hz1]; simp only [List.map_toArray, List.map_cons, List.map_nil]; exact filled_en k (str b) (str p)) ?_
        clear hie hz0 hz1 hz2
        have HB3 : Hid (Below w2.heap.size w2 (wx2.alloc (.cells #[.int .i64 k.t, .int .i64 k.c, .int .i64 k.e, .string (str b), .string (str p)] 51))) := hid (HB2.out.alloc HB2.out.size _)
        have HQ3 : Hid (Blk (wx2.alloc (.cells #[.int .i64 k.t, .int .i64 k.c, .int .i64 k.e, .string (str b), .string (str p)] 51)) wx2.heap.size 51 #[.int .i64 k.t, .int .i64 k.c, .int .i64 k.e, .string (str b), .string (str p)]) := hid (Blk.new wx2 51 #[.int .i64 k.t, .int .i64 k.c, .int .i64 k.e, .string (str b), .string (str p)])
        have HR3 : Hid ((wx2.alloc (.cells #[.int .i64 k.t, .int .i64 k.c, .int .i64 k.e, .string (str b), .string (str p)] 51)).ownsRow w2.heap.size 51 5 (.slice A2 s.L.length c2) s.L.length (recs s.L)) := hid (own_keep HR2.out fun d hd => ((Below.refl _ _).alloc (Nat.le_refl _) _).block d (own_lt HR2.out d hd))
        have HD3 : Hid (∀ d, A2.map (·.block) = some d → d ≠ wx2.heap.size) := hid (fun d hd => by have := own_lt HR2.out d hd; omega)
        generalize hq3 : wx2.heap.size = q3 at *
        clear hq3
        generalize hw3 : wx2.alloc (.cells #[.int .i64 k.t, .int .i64 k.c, .int .i64 k.e, .string (str b), .string (str p)] 51) = wx3 at *
        clear hw3
        refine hK.out _ _ (HB3.out.block w.heap.size HKW.out) (fun HS => ?_)
        clear hK K
        try simp only [Act.put, List.setIfInBounds_toArray, List.set_cons_zero, List.set_cons_succ]
        refine wpAnyH_ready (rs := [12]) (by kernel_rfl) (by simp) ?_
        refine AllReadyH.cons (o := ?ozbfgl12) ?hozbfgl12 (fun K hK => ?stepzbfgl12) AllReadyH.nil
        case hozbfgl12 => simp only [List.getElem?_toArray, List.getElem?_cons_succ, List.getElem?_cons_zero]; exact rfl
        rw [if_pos (by rfl)]
        obtain ⟨A4, c4, w5, hrun4, hgr4⟩ := run_append_L (P := Try.prog) wx3 27 27 51 _ 5 56 Try.underlying27 Try.infoEn rfl (by decide) w2.heap.size A2 s.L.length c2 (recs s.L) HR3.out (some ⟨q3, 0, none⟩) 1 1 (rec5 (⟨k, b, p⟩ : En)) rfl (fun _ => ⟨q3, 0, rfl, fun j v hv => by rw [HQ3.out.cell, Nat.zero_add, List.getElem?_toArray]; exact hv⟩) (rec5_cell _) (by have := HLL.out; omega) (by have := HLL.out; unfold maxLen; omega) HB3.out.size
        have HB5 : Hid (Below w2.heap.size w2 w5) := hid (HB3.out.grown hgr4.2.2.1 HB3.out.size (fun d hd => own_ge HR3.out d hd))
        have HL5 := hid (RVAt.sealed HV2.out (⟨k, b, p⟩ : En) HB5.out hgr4.1)
        rw [HNN.out] at HL5 hrun4
        refine wp_append_run 27 _ _ rfl _ _ _ rfl rfl hrun4 ?_
        have eg5 := HB5.out.block g HGV.out
        have f5 := (HV2.out.blk.keep eg5).frozen 0
        have u0 := (HV2.out.blk.keep eg5).cell 0
        simp only [List.getElem?_toArray, List.getElem?_cons_zero] at u0
        have HV0 : Hid ((w5.setCell ⟨g, 0, none⟩ (.slice A4 NN c4)).cell? ⟨g, 0, none⟩ = some (.slice A4 NN c4)) := hid (by simpa using ((HV2.out.blk.keep eg5).store 0 (.slice A4 NN c4)).cell 0)
        clear hrun4 hgr4 eg5
        refine hK.out _ _ (HB5.out.block w.heap.size HKW.out) (fun HS => ?_)
        clear hK K
        try simp only [Act.put, List.setIfInBounds_toArray, List.set_cons_zero, List.set_cons_succ]
        refine wpAnyH_take (i := 13) (oi := ?oizbfgl13) (v := ?vzbfgl13) ?hizbfgl13 (by kernel_rfl) (by kernel_rfl) (by kernel_rfl) ?hQzbfgl13 ?hyzbfgl13 HS ?restzbfgl13
        case hizbfgl13 => simp only [List.getElem?_toArray, List.getElem?_cons_succ, List.getElem?_cons_zero]; exact rfl
        case hQzbfgl13 => exact fun _ _ _ h => h
        case hyzbfgl13 =>
          refine Or.inl ⟨by rfl, ?_⟩
          intro wS hSw
          go_simp
          try with_reducible rfl
        try simp only [Act.put, List.setIfInBounds_toArray, List.set_cons_zero, List.set_cons_succ]
        refine wpAnyH_take (i := 14) (oi := ?oizbfgl14) (v := ?vzbfgl14) ?hizbfgl14 (by kernel_rfl) (by kernel_rfl) (by kernel_rfl) ?hQzbfgl14 ?hyzbfgl14 HS ?restzbfgl14
        case hizbfgl14 => simp only [List.getElem?_toArray, List.getElem?_cons_succ, List.getElem?_cons_zero]; exact rfl
        case hQzbfgl14 => exact fun _ _ _ h => h
        case hyzbfgl14 =>
          refine Or.inl ⟨by rfl, ?_⟩
          intro wS hSw
          go_simp
          try with_reducible rfl
        try simp only [Act.put, List.setIfInBounds_toArray, List.set_cons_zero, List.set_cons_succ]
        refine wpAnyH_ready (rs := [15]) (by kernel_rfl) (by simp) ?_
        refine AllReadyH.cons (o := ?ozbfgl15) ?hozbfgl15 (fun K hK => ?stepzbfgl15) AllReadyH.nil
        case hozbfgl15 => simp only [List.getElem?_toArray, List.getElem?_cons_succ, List.getElem?_cons_zero]; exact rfl
        go_simp
        refine hK.out _ _ ((Below.heap_setCell w5 ⟨g, 0, none⟩ _ w.heap.size (fun e => by have e' : w.heap.size = g := e; have := HGW.out; omega)).trans (HB5.out.block w.heap.size HKW.out)) (fun HS => ?_)
        clear hK K
        try simp only [Act.put]
        refine wpAnyH_done (by kernel_rfl) ?_ _
        clear HS u0 f5
        have v0 := HV0.out
        go_wp2
        go_ret2
        exact ⟨rfl, RVLeft.after HBW.out HL5.out⟩
      case stepzbf11 =>
        rw [if_pos (by rfl)]
        obtain ⟨ie, hie, hz0, hz1, hz2⟩ := info_parts Try.infoEn
        refine wp_buildSlice 27 51 1 _ rfl #[.int .i64 k.t, .int .i64 k.c, .int .i64 k.e, .string (str b), .string (str p)] ie _ Try.underlying27 hie hz0 (by rw [hz1]; decide) (by rw [hz1]; decide) (by rw [hz1]; simp only [List.map_toArray, List.map_cons, List.map_nil]; exact filled_en k (str b) (str p)) ?_
        clear hie hz0 hz1 hz2
        have HB5 : Hid (Below w2.heap.size w2 (wx1.alloc (.cells #[.int .i64 k.t, .int .i64 k.c, .int .i64 k.e, .string (str b), .string (str p)] 51))) := hid (HB1.out.alloc HB1.out.size _)
        have HQ5 : Hid (Blk (wx1.alloc (.cells #[.int .i64 k.t, .int .i64 k.c, .int .i64 k.e, .string (str b), .string (str p)] 51)) wx1.heap.size 51 #[.int .i64 k.t, .int .i64 k.c, .int .i64 k.e, .string (str b), .string (str p)]) := hid (Blk.new wx1 51 #[.int .i64 k.t, .int .i64 k.c, .int .i64 k.e, .string (str b), .string (str p)])
        have HR5 : Hid ((wx1.alloc (.cells #[.int .i64 k.t, .int .i64 k.c, .int .i64 k.e, .string (str b), .string (str p)] 51)).ownsRow w2.heap.size 51 5 (.slice (some ⟨r1, 0, none⟩) 0 0) 0 []) := hid (own_keep HR1.out fun d hd => ((Below.refl _ _).alloc (Nat.le_refl _) _).block d (own_lt HR1.out d hd))
        have HD5 : Hid (r1 ≠ wx1.heap.size) := hid (by have := own_lt HR1.out r1 rfl; omega)
        generalize hq5 : wx1.heap.size = q5 at *
        clear hq5
        generalize hw5 : wx1.alloc (.cells #[.int .i64 k.t, .int .i64 k.c, .int .i64 k.e, .string (str b), .string (str p)] 51) = wx5 at *
        clear hw5
        refine hK.out _ _ (HB5.out.block w.heap.size HKW.out) (fun HS => ?_)
        clear hK K
        try simp only [Act.put, List.setIfInBounds_toArray, List.set_cons_zero, List.set_cons_succ]
        refine wpAnyH_ready (rs := [6]) (by kernel_rfl) (by simp) ?_
        refine AllReadyH.cons (o := ?ozbfl6) ?hozbfl6 (fun K hK => ?stepzbfl6) AllReadyH.nil
        case hozbfl6 => simp only [List.getElem?_toArray, List.getElem?_cons_succ, List.getElem?_cons_zero]; exact rfl
        rw [if_pos (by rfl)]
        obtain ⟨A6, c6, wx6, hrun6, hgr6⟩ := run_append_L (P := Try.prog) wx5 27 27 51 _ 5 56 Try.underlying27 Try.infoEn rfl (by decide) w2.heap.size (some ⟨r1, 0, none⟩) 0 0 [] HR5.out A s.L.length c (recs s.L) (recs_len _) (fun h0 => by obtain ⟨lb, hA, hlt, hrr⟩ := own_range HV2.out.row h0; exact ⟨lb, 0, hA, rangeAt_keep hrr (HB5.out.block lb hlt)⟩) (recs_cell _) (by have := HLL.out; omega) (by have := HLL.out; unfold maxLen; omega) HB5.out.size
        rw [Nat.zero_add, List.nil_append] at hgr6
        rw [Nat.zero_add] at hrun6
        refine wp_append_run 27 _ _ rfl _ _ _ rfl rfl hrun6 ?_
        have HR6 : Hid (wx6.ownsRow w2.heap.size 51 5 (.slice A6 s.L.length c6) s.L.length (recs s.L)) := hid hgr6.1
        have HB6 : Hid (Below w2.heap.size w2 wx6) := hid (HB5.out.grown hgr6.2.2.1 HB5.out.size (fun d hd => by injection hd with hd; have := own_ge HR5.out r1 rfl; have hd : r1 = d := hd; omega))
        have HQ6 : Hid (Blk wx6 q5 51 #[.int .i64 k.t, .int .i64 k.c, .int .i64 k.e, .string (str b), .string (str p)]) := hid (HQ5.out.keep (hgr6.2.2.1.block _ HQ5.out.lt (fun e => by injection e with e; exact HD5.out e.symm)))
        have HD6 : Hid (∀ d, A6.map (·.block) = some d → d ≠ q5) := hid (fun d hd => by
          have := HQ5.out.lt
          rcases hgr6.2.2.2 d hd with e | e
          · injection e with e; exact fun e2 => HD5.out (e.trans e2)
          · omega)
        clear hrun6 hgr6
        refine hK.out _ _ (HB6.out.block w.heap.size HKW.out) (fun HS => ?_)
        clear hK K
        try simp only [Act.put, List.setIfInBounds_toArray, List.set_cons_zero, List.set_cons_succ]
        refine wpAnyH_ready (rs := [12]) (by kernel_rfl) (by simp) ?_
        refine AllReadyH.cons (o := ?ozbflg12) ?hozbflg12 (fun K hK => ?stepzbflg12) AllReadyH.nil
        case hozbflg12 => simp only [List.getElem?_toArray, List.getElem?_cons_succ, List.getElem?_cons_zero]; exact rfl
        rw [if_pos (by rfl)]
        obtain ⟨A7, c7, w5, hrun7, hgr7⟩ := run_append_L (P := Try.prog) wx6 27 27 51 _ 5 56 Try.underlying27 Try.infoEn rfl (by decide) w2.heap.size A6 s.L.length c6 (recs s.L) HR6.out (some ⟨q5, 0, none⟩) 1 1 (rec5 (⟨k, b, p⟩ : En)) rfl (fun _ => ⟨q5, 0, rfl, fun j v hv => by rw [HQ6.out.cell, Nat.zero_add, List.getElem?_toArray]; exact hv⟩) (rec5_cell _) (by have := HLL.out; omega) (by have := HLL.out; unfold maxLen; omega) HB6.out.size
        have HB5 : Hid (Below w2.heap.size w2 w5) := hid (HB6.out.grown hgr7.2.2.1 HB6.out.size (fun d hd => own_ge HR6.out d hd))
        have HL5 := hid (RVAt.sealed HV2.out (⟨k, b, p⟩ : En) HB5.out hgr7.1)
        rw [HNN.out] at HL5 hrun7
        refine wp_append_run 27 _ _ rfl _ _ _ rfl rfl hrun7 ?_
        have eg5 := HB5.out.block g HGV.out
        have f5 := (HV2.out.blk.keep eg5).frozen 0
        have u0 := (HV2.out.blk.keep eg5).cell 0
        simp only [List.getElem?_toArray, List.getElem?_cons_zero] at u0
        have HV0 : Hid ((w5.setCell ⟨g, 0, none⟩ (.slice A7 NN c7)).cell? ⟨g, 0, none⟩ = some (.slice A7 NN c7)) := hid (by simpa using ((HV2.out.blk.keep eg5).store 0 (.slice A7 NN c7)).cell 0)
        clear hrun7 hgr7 eg5
        refine hK.out _ _ (HB5.out.block w.heap.size HKW.out) (fun HS => ?_)
        clear hK K
        try simp only [Act.put, List.setIfInBounds_toArray, List.set_cons_zero, List.set_cons_succ]
        refine wpAnyH_take (i := 13) (oi := ?oizbflg13) (v := ?vzbflg13) ?hizbflg13 (by kernel_rfl) (by kernel_rfl) (by kernel_rfl) ?hQzbflg13 ?hyzbflg13 HS ?restzbflg13
        case hizbflg13 => simp only [List.getElem?_toArray, List.getElem?_cons_succ, List.getElem?_cons_zero]; exact rfl
        case hQzbflg13 => exact fun _ _ _ h => h
        case hyzbflg13 =>
          refine Or.inl ⟨by rfl, ?_⟩
          intro wS hSw
          go_simp
          try with_reducible rfl
        try simp only [Act.put, List.setIfInBounds_toArray, List.set_cons_zero, List.set_cons_succ]
        refine wpAnyH_take (i := 14) (oi := ?oizbflg14) (v := ?vzbflg14) ?hizbflg14 (by kernel_rfl) (by kernel_rfl) (by kernel_rfl) ?hQzbflg14 ?hyzbflg14 HS ?restzbflg14
        case hizbflg14 => simp only [List.getElem?_toArray, List.getElem?_cons_succ, List.getElem?_cons_zero]; exact rfl
        case hQzbflg14 => exact fun _ _ _ h => h
        case hyzbflg14 =>
          refine Or.inl ⟨by rfl, ?_⟩
          intro wS hSw
          go_simp
          try with_reducible rfl
        try simp only [Act.put, List.setIfInBounds_toArray, List.set_cons_zero, List.set_cons_succ]
        refine wpAnyH_ready (rs := [15]) (by kernel_rfl) (by simp) ?_
        refine AllReadyH.cons (o := ?ozbflg15) ?hozbflg15 (fun K hK => ?stepzbflg15) AllReadyH.nil
        case hozbflg15 => simp only [List.getElem?_toArray, List.getElem?_cons_succ, List.getElem?_cons_zero]; exact rfl
        go_simp
        refine hK.out _ _ ((Below.heap_setCell w5 ⟨g, 0, none⟩ _ w.heap.size (fun e => by have e' : w.heap.size = g := e; have := HGW.out; omega)).trans (HB5.out.block w.heap.size HKW.out)) (fun HS => ?_)
        clear hK K
        try simp only [Act.put]
        refine wpAnyH_done (by kernel_rfl) ?_ _
        clear HS u0 f5
        have v0 := HV0.out
        go_wp2
        go_ret2
        exact ⟨rfl, RVLeft.after HBW.out HL5.out⟩
    case stepzb11 =>
      rw [if_pos (by rfl)]
      obtain ⟨ie, hie, hz0, hz1, hz2⟩ := info_parts Try.infoEn
      refine wp_buildSlice 27 51 1 _ rfl #[.int .i64 k.t, .int .i64 k.c, .int .i64 k.e, .string (str b), .string (str p)] ie _ Try.underlying27 hie hz0 (by rw [hz1]; decide) (by rw [hz1]; decide) (by rw [hz1]; simp only [List.map_toArray, List.map_cons, List.map_nil]; exact filled_en k (str b) (str p)) ?_
      clear hie hz0 hz1 hz2
      have HB8 : Hid (Below w2.heap.size w2 (wx1.alloc (.cells #[.int .i64 k.t, .int .i64 k.c, .int .i64 k.e, .string (str b), .string (str p)] 51))) := hid (HB1.out.alloc HB1.out.size _)
      have HQ8 : Hid (Blk (wx1.alloc (.cells #[.int .i64 k.t, .int .i64 k.c, .int .i64 k.e, .string (str b), .string (str p)] 51)) wx1.heap.size 51 #[.int .i64 k.t, .int .i64 k.c, .int .i64 k.e, .string (str b), .string (str p)]) := hid (Blk.new wx1 51 #[.int .i64 k.t, .int .i64 k.c, .int .i64 k.e, .string (str b), .string (str p)])
      have HR8 : Hid ((wx1.alloc (.cells #[.int .i64 k.t, .int .i64 k.c, .int .i64 k.e, .string (str b), .string (str p)] 51)).ownsRow w2.heap.size 51 5 (.slice (some ⟨r1, 0, none⟩) 0 0) 0 []) := hid (own_keep HR1.out fun d hd => ((Below.refl _ _).alloc (Nat.le_refl _) _).block d (own_lt HR1.out d hd))
      have HD8 : Hid (r1 ≠ wx1.heap.size) := hid (by have := own_lt HR1.out r1 rfl; omega)
      generalize hq8 : wx1.heap.size = q8 at *
      clear hq8
      generalize hw8 : wx1.alloc (.cells #[.int .i64 k.t, .int .i64 k.c, .int .i64 k.e, .string (str b), .string (str p)] 51) = wx8 at *
      clear hw8
      refine hK.out _ _ (HB8.out.block w.heap.size HKW.out) (fun HS => ?_)
      clear hK K
      try simp only [Act.put, List.setIfInBounds_toArray, List.set_cons_zero, List.set_cons_succ]
      refine wpAnyH_ready (rs := [5]) (by kernel_rfl) (by simp) ?_
      refine AllReadyH.cons (o := ?ozbl5) ?hozbl5 (fun K hK => ?stepzbl5) AllReadyH.nil
      case hozbl5 => simp only [List.getElem?_toArray, List.getElem?_cons_succ, List.getElem?_cons_zero]; exact rfl
      rw [if_pos (by rfl)]
      refine wp_load_slice 27 (.tmp 35) rfl 51 Try.underlying27 g 0 rfl _ ((World.cell?_of_block (HB8.out.block g HGV.out)).trans yd) ?_
      refine hK.out _ _ (HB8.out.block w.heap.size HKW.out) (fun HS => ?_)
      clear hK K
      try simp only [Act.put, List.setIfInBounds_toArray, List.set_cons_zero, List.set_cons_succ]
      refine wpAnyH_ready (rs := [6]) (by kernel_rfl) (by simp) ?_
      refine AllReadyH.cons (o := ?ozblf6) ?hozblf6 (fun K hK => ?stepzblf6) AllReadyH.nil
      case hozblf6 => simp only [List.getElem?_toArray, List.getElem?_cons_succ, List.getElem?_cons_zero]; exact rfl
      rw [if_pos (by rfl)]
      obtain ⟨A9, c9, wx9, hrun9, hgr9⟩ := run_append_L (P := Try.prog) wx8 27 27 51 _ 5 56 Try.underlying27 Try.infoEn rfl (by decide) w2.heap.size (some ⟨r1, 0, none⟩) 0 0 [] HR8.out A s.L.length c (recs s.L) (recs_len _) (fun h0 => by obtain ⟨lb, hA, hlt, hrr⟩ := own_range HV2.out.row h0; exact ⟨lb, 0, hA, rangeAt_keep hrr (HB8.out.block lb hlt)⟩) (recs_cell _) (by have := HLL.out; omega) (by have := HLL.out; unfold maxLen; omega) HB8.out.size
      rw [Nat.zero_add, List.nil_append] at hgr9
      rw [Nat.zero_add] at hrun9
      refine wp_append_run 27 _ _ rfl _ _ _ rfl rfl hrun9 ?_
      have HR9 : Hid (wx9.ownsRow w2.heap.size 51 5 (.slice A9 s.L.length c9) s.L.length (recs s.L)) := hid hgr9.1
      have HB9 : Hid (Below w2.heap.size w2 wx9) := hid (HB8.out.grown hgr9.2.2.1 HB8.out.size (fun d hd => by injection hd with hd; have := own_ge HR8.out r1 rfl; have hd : r1 = d := hd; omega))
      have HQ9 : Hid (Blk wx9 q8 51 #[.int .i64 k.t, .int .i64 k.c, .int .i64 k.e, .string (str b), .string (str p)]) := hid (HQ8.out.keep (hgr9.2.2.1.block _ HQ8.out.lt (fun e => by injection e with e; exact HD8.out e.symm)))
      have HD9 : Hid (∀ d, A9.map (·.block) = some d → d ≠ q8) := hid (fun d hd => by
        have := HQ8.out.lt
        rcases hgr9.2.2.2 d hd with e | e
        · injection e with e; exact fun e2 => HD8.out (e.trans e2)
        · omega)
      clear hrun9 hgr9
      refine hK.out _ _ (HB9.out.block w.heap.size HKW.out) (fun HS => ?_)
      clear hK K
      try simp only [Act.put, List.setIfInBounds_toArray, List.set_cons_zero, List.set_cons_succ]
      refine wpAnyH_ready (rs := [12]) (by kernel_rfl) (by simp) ?_
      refine AllReadyH.cons (o := ?ozblfg12) ?hozblfg12 (fun K hK => ?stepzblfg12) AllReadyH.nil
      case hozblfg12 => simp only [List.getElem?_toArray, List.getElem?_cons_succ, List.getElem?_cons_zero]; exact rfl
      rw [if_pos (by rfl)]
      obtain ⟨A10, c10, w5, hrun10, hgr10⟩ := run_append_L (P := Try.prog) wx9 27 27 51 _ 5 56 Try.underlying27 Try.infoEn rfl (by decide) w2.heap.size A9 s.L.length c9 (recs s.L) HR9.out (some ⟨q8, 0, none⟩) 1 1 (rec5 (⟨k, b, p⟩ : En)) rfl (fun _ => ⟨q8, 0, rfl, fun j v hv => by rw [HQ9.out.cell, Nat.zero_add, List.getElem?_toArray]; exact hv⟩) (rec5_cell _) (by have := HLL.out; omega) (by have := HLL.out; unfold maxLen; omega) HB9.out.size
      have HB5 : Hid (Below w2.heap.size w2 w5) := hid (HB9.out.grown hgr10.2.2.1 HB9.out.size (fun d hd => own_ge HR9.out d hd))
      have HL5 := hid (RVAt.sealed HV2.out (⟨k, b, p⟩ : En) HB5.out hgr10.1)
      rw [HNN.out] at HL5 hrun10
      refine wp_append_run 27 _ _ rfl _ _ _ rfl rfl hrun10 ?_
      have eg5 := HB5.out.block g HGV.out
      have f5 := (HV2.out.blk.keep eg5).frozen 0
      have u0 := (HV2.out.blk.keep eg5).cell 0
      simp only [List.getElem?_toArray, List.getElem?_cons_zero] at u0
      have HV0 : Hid ((w5.setCell ⟨g, 0, none⟩ (.slice A10 NN c10)).cell? ⟨g, 0, none⟩ = some (.slice A10 NN c10)) := hid (by simpa using ((HV2.out.blk.keep eg5).store 0 (.slice A10 NN c10)).cell 0)
      clear hrun10 hgr10 eg5
      refine hK.out _ _ (HB5.out.block w.heap.size HKW.out) (fun HS => ?_)
      clear hK K
      try simp only [Act.put, List.setIfInBounds_toArray, List.set_cons_zero, List.set_cons_succ]
      refine wpAnyH_take (i := 13) (oi := ?oizblfg13) (v := ?vzblfg13) ?hizblfg13 (by kernel_rfl) (by kernel_rfl) (by kernel_rfl) ?hQzblfg13 ?hyzblfg13 HS ?restzblfg13
      case hizblfg13 => simp only [List.getElem?_toArray, List.getElem?_cons_succ, List.getElem?_cons_zero]; exact rfl
      case hQzblfg13 => exact fun _ _ _ h => h
      case hyzblfg13 =>
        refine Or.inl ⟨by rfl, ?_⟩
        intro wS hSw
        go_simp
        try with_reducible rfl
      try simp only [Act.put, List.setIfInBounds_toArray, List.set_cons_zero, List.set_cons_succ]
      refine wpAnyH_take (i := 14) (oi := ?oizblfg14) (v := ?vzblfg14) ?hizblfg14 (by kernel_rfl) (by kernel_rfl) (by kernel_rfl) ?hQzblfg14 ?hyzblfg14 HS ?restzblfg14
      case hizblfg14 => simp only [List.getElem?_toArray, List.getElem?_cons_succ, List.getElem?_cons_zero]; exact rfl
      case hQzblfg14 => exact fun _ _ _ h => h
      case hyzblfg14 =>
        refine Or.inl ⟨by rfl, ?_⟩
        intro wS hSw
        go_simp
        try with_reducible rfl
      try simp only [Act.put, List.setIfInBounds_toArray, List.set_cons_zero, List.set_cons_succ]
      refine wpAnyH_ready (rs := [15]) (by kernel_rfl) (by simp) ?_
      refine AllReadyH.cons (o := ?ozblfg15) ?hozblfg15 (fun K hK => ?stepzblfg15) AllReadyH.nil
      case hozblfg15 => simp only [List.getElem?_toArray, List.getElem?_cons_succ, List.getElem?_cons_zero]; exact rfl
      go_simp
      refine hK.out _ _ ((Below.heap_setCell w5 ⟨g, 0, none⟩ _ w.heap.size (fun e => by have e' : w.heap.size = g := e; have := HGW.out; omega)).trans (HB5.out.block w.heap.size HKW.out)) (fun HS => ?_)
      clear hK K
      try simp only [Act.put]
      refine wpAnyH_done (by kernel_rfl) ?_ _
      clear HS u0 f5
      have v0 := HV0.out
      go_wp2
      go_ret2
      exact ⟨rfl, RVLeft.after HBW.out HL5.out⟩
  case stepz5 =>
    rw [if_pos (by rfl)]
    refine wp_load_slice 27 (.tmp 35) rfl 51 Try.underlying27 g 0 rfl _ ((World.cell?_of_block (HBs.out.block g HGV.out)).trans yd) ?_
    refine hK.out _ _ (HBs.out.block w.heap.size HKW.out) (fun HS => ?_)
    clear hK K
    try simp only [Act.put, List.setIfInBounds_toArray, List.set_cons_zero, List.set_cons_succ]
    refine wpAnyH_ready (rs := [1, 11]) (by kernel_rfl) (by simp) ?_
    refine (AllReadyH.cons (o := ?ozf1) ?hozf1 (fun K hK => ?stepzf1) (AllReadyH.cons (o := ?ozf11) ?hozf11 (fun K hK => ?stepzf11) AllReadyH.nil))
    case hozf1 => simp only [List.getElem?_toArray, List.getElem?_cons_succ, List.getElem?_cons_zero]; exact rfl
    case hozf11 => simp only [List.getElem?_toArray, List.getElem?_cons_succ, List.getElem?_cons_zero]; exact rfl
    case stepzf1 =>
      rw [if_pos (by rfl)]
      refine wp_buildSlice0 27 51 rfl Try.underlying27 Try.isInfoEn ?_
      have HB11 : Hid (Below w2.heap.size w2 (w2.drew.alloc (.cells #[] 51))) := hid (HBs.out.alloc HBs.out.size _)
      have HR11 : Hid ((w2.drew.alloc (.cells #[] 51)).ownsRow w2.heap.size 51 5 (.slice (some ⟨w2.drew.heap.size, 0, none⟩) 0 0) 0 []) := hid (own_empty _ _ _ _ HBs.out.size)
      generalize hr11 : w2.drew.heap.size = r11 at *
      clear hr11
      generalize hw11 : w2.drew.alloc (.cells #[] 51) = wx11 at *
      clear hw11
      refine hK.out _ _ (HB11.out.block w.heap.size HKW.out) (fun HS => ?_)
      clear hK K
      try simp only [Act.put, List.setIfInBounds_toArray, List.set_cons_zero, List.set_cons_succ]
      refine wpAnyH_ready (rs := [6, 11]) (by kernel_rfl) (by simp) ?_
      refine (AllReadyH.cons (o := ?ozfb6) ?hozfb6 (fun K hK => ?stepzfb6) (AllReadyH.cons (o := ?ozfb11) ?hozfb11 (fun K hK => ?stepzfb11) AllReadyH.nil))
      case hozfb6 => simp only [List.getElem?_toArray, List.getElem?_cons_succ, List.getElem?_cons_zero]; exact rfl
      case hozfb11 => simp only [List.getElem?_toArray, List.getElem?_cons_succ, List.getElem?_cons_zero]; exact rfl
      case stepzfb6 =>
        rw [if_pos (by rfl)]
        obtain ⟨A12, c12, wx12, hrun12, hgr12⟩ := run_append_L (P := Try.prog) wx11 27 27 51 _ 5 56 Try.underlying27 Try.infoEn rfl (by decide) w2.heap.size (some ⟨r11, 0, none⟩) 0 0 [] HR11.out A s.L.length c (recs s.L) (recs_len _) (fun h0 => by obtain ⟨lb, hA, hlt, hrr⟩ := own_range HV2.out.row h0; exact ⟨lb, 0, hA, rangeAt_keep hrr (HB11.out.block lb hlt)⟩) (recs_cell _) (by have := HLL.out; omega) (by have := HLL.out; unfold maxLen; omega) HB11.out.size
        rw [Nat.zero_add, List.nil_append] at hgr12
        rw [Nat.zero_add] at hrun12
        refine wp_append_run 27 _ _ rfl _ _ _ rfl rfl hrun12 ?_
        have HR12 : Hid (wx12.ownsRow w2.heap.size 51 5 (.slice A12 s.L.length c12) s.L.length (recs s.L)) := hid hgr12.1
        have HB12 : Hid (Below w2.heap.size w2 wx12) := hid (HB11.out.grown hgr12.2.2.1 HB11.out.size (fun d hd => by injection hd with hd; have := own_ge HR11.out r11 rfl; have hd : r11 = d := hd; omega))
        clear hrun12 hgr12
        refine hK.out _ _ (HB12.out.block w.heap.size HKW.out) (fun HS => ?_)
        clear hK K
        try simp only [Act.put, List.setIfInBounds_toArray, List.set_cons_zero, List.set_cons_succ]
        refine wpAnyH_ready (rs := [11]) (by kernel_rfl) (by simp) ?_
        refine AllReadyH.cons (o := ?ozfbg11) ?hozfbg11 (fun K hK => ?stepzfbg11) AllReadyH.nil
        case hozfbg11 => simp only [List.getElem?_toArray, List.getElem?_cons_succ, List.getElem?_cons_zero]; exact rfl
        rw [if_pos (by rfl)]
        obtain ⟨ie, hie, hz0, hz1, hz2⟩ := info_parts Try.infoEn
        refine wp_buildSlice 27 51 1 _ rfl #[.int .i64 k.t, .int .i64 k.c, .int .i64 k.e, .string (str b), .string (str p)] ie _ Try.underlying27 hie hz0 (by rw [hz1]; decide) (by rw [hz1]; decide) (by rw [hz1]; simp only [List.map_toArray, List.map_cons, List.map_nil]; exact filled_en k (str b) (str p)) ?_
        clear hie hz0 hz1 hz2
        have HB13 : Hid (Below w2.heap.size w2 (wx12.alloc (.cells #[.int .i64 k.t, .int .i64 k.c, .int .i64 k.e, .string (str b), .string (str p)] 51))) := hid (HB12.out.alloc HB12.out.size _)
        have HQ13 : Hid (Blk (wx12.alloc (.cells #[.int .i64 k.t, .int .i64 k.c, .int .i64 k.e, .string (str b), .string (str p)] 51)) wx12.heap.size 51 #[.int .i64 k.t, .int .i64 k.c, .int .i64 k.e, .string (str b), .string (str p)]) := hid (Blk.new wx12 51 #[.int .i64 k.t, .int .i64 k.c, .int .i64 k.e, .string (str b), .string (str p)])
        have HR13 : Hid ((wx12.alloc (.cells #[.int .i64 k.t, .int .i64 k.c, .int .i64 k.e, .string (str b), .string (str p)] 51)).ownsRow w2.heap.size 51 5 (.slice A12 s.L.length c12) s.L.length (recs s.L)) := hid (own_keep HR12.out fun d hd => ((Below.refl _ _).alloc (Nat.le_refl _) _).block d (own_lt HR12.out d hd))
        have HD13 : Hid (∀ d, A12.map (·.block) = some d → d ≠ wx12.heap.size) := hid (fun d hd => by have := own_lt HR12.out d hd; omega)
        generalize hq13 : wx12.heap.size = q13 at *
        clear hq13
        generalize hw13 : wx12.alloc (.cells #[.int .i64 k.t, .int .i64 k.c, .int .i64 k.e, .string (str b), .string (str p)] 51) = wx13 at *
        clear hw13
        refine hK.out _ _ (HB13.out.block w.heap.size HKW.out) (fun HS => ?_)
        clear hK K
        try simp only [Act.put, List.setIfInBounds_toArray, List.set_cons_zero, List.set_cons_succ]
        refine wpAnyH_ready (rs := [12]) (by kernel_rfl) (by simp) ?_
        refine AllReadyH.cons (o := ?ozfbgl12) ?hozfbgl12 (fun K hK => ?stepzfbgl12) AllReadyH.nil
        case hozfbgl12 => simp only [List.getElem?_toArray, List.getElem?_cons_succ, List.getElem?_cons_zero]; exact rfl
        rw [if_pos (by rfl)]
        obtain ⟨A14, c14, w5, hrun14, hgr14⟩ := run_append_L (P := Try.prog) wx13 27 27 51 _ 5 56 Try.underlying27 Try.infoEn rfl (by decide) w2.heap.size A12 s.L.length c12 (recs s.L) HR13.out (some ⟨q13, 0, none⟩) 1 1 (rec5 (⟨k, b, p⟩ : En)) rfl (fun _ => ⟨q13, 0, rfl, fun j v hv => by rw [HQ13.out.cell, Nat.zero_add, List.getElem?_toArray]; exact hv⟩) (rec5_cell _) (by have := HLL.out; omega) (by have := HLL.out; unfold maxLen; omega) HB13.out.size
        have HB5 : Hid (Below w2.heap.size w2 w5) := hid (HB13.out.grown hgr14.2.2.1 HB13.out.size (fun d hd => own_ge HR13.out d hd))
        have HL5 := hid (RVAt.sealed HV2.out (⟨k, b, p⟩ : En) HB5.out hgr14.1)
        rw [HNN.out] at HL5 hrun14
        refine wp_append_run 27 _ _ rfl _ _ _ rfl rfl hrun14 ?_
        have eg5 := HB5.out.block g HGV.out
        have f5 := (HV2.out.blk.keep eg5).frozen 0
        have u0 := (HV2.out.blk.keep eg5).cell 0
        simp only [List.getElem?_toArray, List.getElem?_cons_zero] at u0
        have HV0 : Hid ((w5.setCell ⟨g, 0, none⟩ (.slice A14 NN c14)).cell? ⟨g, 0, none⟩ = some (.slice A14 NN c14)) := hid (by simpa using ((HV2.out.blk.keep eg5).store 0 (.slice A14 NN c14)).cell 0)
        clear hrun14 hgr14 eg5
        refine hK.out _ _ (HB5.out.block w.heap.size HKW.out) (fun HS => ?_)
        clear hK K
        try simp only [Act.put, List.setIfInBounds_toArray, List.set_cons_zero, List.set_cons_succ]
        refine wpAnyH_take (i := 13) (oi := ?oizfbgl13) (v := ?vzfbgl13) ?hizfbgl13 (by kernel_rfl) (by kernel_rfl) (by kernel_rfl) ?hQzfbgl13 ?hyzfbgl13 HS ?restzfbgl13
        case hizfbgl13 => simp only [List.getElem?_toArray, List.getElem?_cons_succ, List.getElem?_cons_zero]; exact rfl
        case hQzfbgl13 => exact fun _ _ _ h => h
        case hyzfbgl13 =>
          refine Or.inl ⟨by rfl, ?_⟩
          intro wS hSw
          go_simp
          try with_reducible rfl
        try simp only [Act.put, List.setIfInBounds_toArray, List.set_cons_zero, List.set_cons_succ]
        refine wpAnyH_take (i := 14) (oi := ?oizfbgl14) (v := ?vzfbgl14) ?hizfbgl14 (by kernel_rfl) (by kernel_rfl) (by kernel_rfl) ?hQzfbgl14 ?hyzfbgl14 HS ?restzfbgl14
        case hizfbgl14 => simp only [List.getElem?_toArray, List.getElem?_cons_succ, List.getElem?_cons_zero]; exact rfl
        case hQzfbgl14 => exact fun _ _ _ h => h
        case hyzfbgl14 =>
          refine Or.inl ⟨by rfl, ?_⟩
          intro wS hSw
          go_simp
          try with_reducible rfl
        try simp only [Act.put, List.setIfInBounds_toArray, List.set_cons_zero, List.set_cons_succ]
        refine wpAnyH_ready (rs := [15]) (by kernel_rfl) (by simp) ?_
        refine AllReadyH.cons (o := ?ozfbgl15) ?hozfbgl15 (fun K hK => ?stepzfbgl15) AllReadyH.nil
        case hozfbgl15 => simp only [List.getElem?_toArray, List.getElem?_cons_succ, List.getElem?_cons_zero]; exact rfl
        go_simp
        refine hK.out _ _ ((Below.heap_setCell w5 ⟨g, 0, none⟩ _ w.heap.size (fun e => by have e' : w.heap.size = g := e; have := HGW.out; omega)).trans (HB5.out.block w.heap.size HKW.out)) (fun HS => ?_)
        clear hK K
        try simp only [Act.put]
        refine wpAnyH_done (by kernel_rfl) ?_ _
        clear HS u0 f5
        have v0 := HV0.out
        go_wp2
        go_ret2
        exact ⟨rfl, RVLeft.after HBW.out HL5.out⟩
      case stepzfb11 =>
        rw [if_pos (by rfl)]
        obtain ⟨ie, hie, hz0, hz1, hz2⟩ := info_parts Try.infoEn
        refine wp_buildSlice 27 51 1 _ rfl #[.int .i64 k.t, .int .i64 k.c, .int .i64 k.e, .string (str b), .string (str p)] ie _ Try.underlying27 hie hz0 (by rw [hz1]; decide) (by rw [hz1]; decide) (by rw [hz1]; simp only [List.map_toArray, List.map_cons, List.map_nil]; exact filled_en k (str b) (str p)) ?_
        clear hie hz0 hz1 hz2
        have HB15 : Hid (Below w2.heap.size w2 (wx11.alloc (.cells #[.int .i64 k.t, .int .i64 k.c, .int .i64 k.e, .string (str b), .string (str p)] 51))) := hid (HB11.out.alloc HB11.out.size _)
        have HQ15 : Hid (Blk (wx11.alloc (.cells #[.int .i64 k.t, .int .i64 k.c, .int .i64 k.e, .string (str b), .string (str p)] 51)) wx11.heap.size 51 #[.int .i64 k.t, .int .i64 k.c, .int .i64 k.e, .string (str b), .string (str p)]) := hid (Blk.new wx11 51 #[.int .i64 k.t, .int .i64 k.c, .int .i64 k.e, .string (str b), .string (str p)])
        have HR15 : Hid ((wx11.alloc (.cells #[.int .i64 k.t, .int .i64 k.c, .int .i64 k.e, .string (str b), .string (str p)] 51)).ownsRow w2.heap.size 51 5 (.slice (some ⟨r11, 0, none⟩) 0 0) 0 []) := hid (own_keep HR11.out fun d hd => ((Below.refl _ _).alloc (Nat.le_refl _) _).block d (own_lt HR11.out d hd))
        have HD15 : Hid (r11 ≠ wx11.heap.size) := hid (by have := own_lt HR11.out r11 rfl; omega)
        generalize hq15 : wx11.heap.size = q15 at *
        clear hq15
        generalize hw15 : wx11.alloc (.cells #[.int .i64 k.t, .int .i64 k.c, .int .i64 k.e, .string (str b), .string (str p)] 51) = wx15 at *
        clear hw15
        refine hK.out _ _ (HB15.out.block w.heap.size HKW.out) (fun HS => ?_)
        clear hK K
        try simp only [Act.put, List.setIfInBounds_toArray, List.set_cons_zero, List.set_cons_succ]
        refine wpAnyH_ready (rs := [6]) (by kernel_rfl) (by simp) ?_
        refine AllReadyH.cons (o := ?ozfbl6) ?hozfbl6 (fun K hK => ?stepzfbl6) AllReadyH.nil
        case hozfbl6 => simp only [List.getElem?_toArray, List.getElem?_cons_succ, List.getElem?_cons_zero]; exact rfl
        rw [if_pos (by rfl)]
        obtain ⟨A16, c16, wx16, hrun16, hgr16⟩ := run_append_L (P := Try.prog) wx15 27 27 51 _ 5 56 Try.underlying27 Try.infoEn rfl (by decide) w2.heap.size (some ⟨r11, 0, none⟩) 0 0 [] HR15.out A s.L.length c (recs s.L) (recs_len _) (fun h0 => by obtain ⟨lb, hA, hlt, hrr⟩ := own_range HV2.out.row h0; exact ⟨lb, 0, hA, rangeAt_keep hrr (HB15.out.block lb hlt)⟩) (recs_cell _) (by have := HLL.out; omega) (by have := HLL.out; unfold maxLen; omega) HB15.out.size
        rw [Nat.zero_add, List.nil_append] at hgr16
        rw [Nat.zero_add] at hrun16
        refine wp_append_run 27 _ _ rfl _ _ _ rfl rfl hrun16 ?_
        have HR16 : Hid (wx16.ownsRow w2.heap.size 51 5 (.slice A16 s.L.length c16) s.L.length (recs s.L)) := hid hgr16.1
        have HB16 : Hid (Below w2.heap.size w2 wx16) := hid (HB15.out.grown hgr16.2.2.1 HB15.out.size (fun d hd => by injection hd with hd; have := own_ge HR15.out r11 rfl; have hd : r11 = d := hd; omega))
        have HQ16 : Hid (Blk wx16 q15 51 #[.int .i64 k.t, .int .i64 k.c, .int .i64 k.e, .string (str b), .string (str p)]) := hid (HQ15.out.keep (hgr16.2.2.1.block _ HQ15.out.lt (fun e => by injection e with e; exact HD15.out e.symm)))
        have HD16 : Hid (∀ d, A16.map (·.block) = some d → d ≠ q15) := hid (fun d hd => by
          have := HQ15.out.lt
          rcases hgr16.2.2.2 d hd with e | e
          · injection e with e; exact fun e2 => HD15.out (e.trans e2)
          · omega)
        clear hrun16 hgr16
        refine hK.out _ _ (HB16.out.block w.heap.size HKW.out) (fun HS => ?_)
        clear hK K
        try simp only [Act.put, List.setIfInBounds_toArray, List.set_cons_zero, List.set_cons_succ]
        refine wpAnyH_ready (rs := [12]) (by kernel_rfl) (by simp) ?_
        refine AllReadyH.cons (o := ?ozfblg12) ?hozfblg12 (fun K hK => ?stepzfblg12) AllReadyH.nil
        case hozfblg12 => simp only [List.getElem?_toArray, List.getElem?_cons_succ, List.getElem?_cons_zero]; exact rfl
        rw [if_pos (by rfl)]
        obtain ⟨A17, c17, w5, hrun17, hgr17⟩ := run_append_L (P := Try.prog) wx16 27 27 51 _ 5 56 Try.underlying27 Try.infoEn rfl (by decide) w2.heap.size A16 s.L.length c16 (recs s.L) HR16.out (some ⟨q15, 0, none⟩) 1 1 (rec5 (⟨k, b, p⟩ : En)) rfl (fun _ => ⟨q15, 0, rfl, fun j v hv => by rw [HQ16.out.cell, Nat.zero_add, List.getElem?_toArray]; exact hv⟩) (rec5_cell _) (by have := HLL.out; omega) (by have := HLL.out; unfold maxLen; omega) HB16.out.size
        have HB5 : Hid (Below w2.heap.size w2 w5) := hid (HB16.out.grown hgr17.2.2.1 HB16.out.size (fun d hd => own_ge HR16.out d hd))
        have HL5 := hid (RVAt.sealed HV2.out (⟨k, b, p⟩ : En) HB5.out hgr17.1)
        rw [HNN.out] at HL5 hrun17
        refine wp_append_run 27 _ _ rfl _ _ _ rfl rfl hrun17 ?_
        have eg5 := HB5.out.block g HGV.out
        have f5 := (HV2.out.blk.keep eg5).frozen 0
        have u0 := (HV2.out.blk.keep eg5).cell 0
        simp only [List.getElem?_toArray, List.getElem?_cons_zero] at u0
        have HV0 : Hid ((w5.setCell ⟨g, 0, none⟩ (.slice A17 NN c17)).cell? ⟨g, 0, none⟩ = some (.slice A17 NN c17)) := hid (by simpa using ((HV2.out.blk.keep eg5).store 0 (.slice A17 NN c17)).cell 0)
        clear hrun17 hgr17 eg5
        refine hK.out _ _ (HB5.out.block w.heap.size HKW.out) (fun HS => ?_)
        clear hK K
        try simp only [Act.put, List.setIfInBounds_toArray, List.set_cons_zero, List.set_cons_succ]
        refine wpAnyH_take (i := 13) (oi := ?oizfblg13) (v := ?vzfblg13) ?hizfblg13 (by kernel_rfl) (by kernel_rfl) (by kernel_rfl) ?hQzfblg13 ?hyzfblg13 HS ?restzfblg13
        case hizfblg13 => simp only [List.getElem?_toArray, List.getElem?_cons_succ, List.getElem?_cons_zero]; exact rfl
        case hQzfblg13 => exact fun _ _ _ h => h
        case hyzfblg13 =>
          refine Or.inl ⟨by rfl, ?_⟩
          intro wS hSw
          go_simp
          try with_reducible rfl
        try simp only [Act.put, List.setIfInBounds_toArray, List.set_cons_zero, List.set_cons_succ]
        refine wpAnyH_take (i := 14) (oi := ?oizfblg14) (v := ?vzfblg14) ?hizfblg14 (by kernel_rfl) (by kernel_rfl) (by kernel_rfl) ?hQzfblg14 ?hyzfblg14 HS ?restzfblg14
        case hizfblg14 => simp only [List.getElem?_toArray, List.getElem?_cons_succ, List.getElem?_cons_zero]; exact rfl
        case hQzfblg14 => exact fun _ _ _ h => h
        case hyzfblg14 =>
          refine Or.inl ⟨by rfl, ?_⟩
          intro wS hSw
          go_simp
          try with_reducible rfl
        try simp only [Act.put, List.setIfInBounds_toArray, List.set_cons_zero, List.set_cons_succ]
        refine wpAnyH_ready (rs := [15]) (by kernel_rfl) (by simp) ?_
        refine AllReadyH.cons (o := ?ozfblg15) ?hozfblg15 (fun K hK => ?stepzfblg15) AllReadyH.nil
        case hozfblg15 => simp only [List.getElem?_toArray, List.getElem?_cons_succ, List.getElem?_cons_zero]; exact rfl
        go_simp
        refine hK.out _ _ ((Below.heap_setCell w5 ⟨g, 0, none⟩ _ w.heap.size (fun e => by have e' : w.heap.size = g := e; have := HGW.out; omega)).trans (HB5.out.block w.heap.size HKW.out)) (fun HS => ?_)
        clear hK K
        try simp only [Act.put]
        refine wpAnyH_done (by kernel_rfl) ?_ _
        clear HS u0 f5
        have v0 := HV0.out
        go_wp2
        go_ret2
        exact ⟨rfl, RVLeft.after HBW.out HL5.out⟩
    case stepzf11 =>
      rw [if_pos (by rfl)]
      obtain ⟨ie, hie, hz0, hz1, hz2⟩ := info_parts Try.infoEn
      refine wp_buildSlice 27 51 1 _ rfl #[.int .i64 k.t, .int .i64 k.c, .int .i64 k.e, .string (str b), .string (str p)] ie _ Try.underlying27 hie hz0 (by rw [hz1]; decide) (by rw [hz1]; decide) (by rw [hz1]; simp only [List.map_toArray, List.map_cons, List.map_nil]; exact filled_en k (str b) (str p)) ?_
      clear hie hz0 hz1 hz2
      have HB18 : Hid (Below w2.heap.size w2 (w2.drew.alloc (.cells #[.int .i64 k.t, .int .i64 k.c, .int .i64 k.e, .string (str b), .string (str p)] 51))) := hid (HBs.out.alloc HBs.out.size _)
      have HQ18 : Hid (Blk (w2.drew.alloc (.cells #[.int .i64 k.t, .int .i64 k.c, .int .i64 k.e, .string (str b), .string (str p)] 51)) w2.drew.heap.size 51 #[.int .i64 k.t, .int .i64 k.c, .int .i64 k.e, .string (str b), .string (str p)]) := hid (Blk.new w2.drew 51 #[.int .i64 k.t, .int .i64 k.c, .int .i64 k.e, .string (str b), .string (str p)])
      generalize hq18 : w2.drew.heap.size = q18 at *
      clear hq18
      generalize hw18 : w2.drew.alloc (.cells #[.int .i64 k.t, .int .i64 k.c, .int .i64 k.e, .string (str b), .string (str p)] 51) = wx18 at *
      clear hw18
      refine hK.out _ _ (HB18.out.block w.heap.size HKW.out) (fun HS => ?_)
      clear hK K
      try simp only [Act.put, List.setIfInBounds_toArray, List.set_cons_zero, List.set_cons_succ]
      refine wpAnyH_ready (rs := [1]) (by kernel_rfl) (by simp) ?_
      refine AllReadyH.cons (o := ?ozfl1) ?hozfl1 (fun K hK => ?stepzfl1) AllReadyH.nil
      case hozfl1 => simp only [List.getElem?_toArray, List.getElem?_cons_succ, List.getElem?_cons_zero]; exact rfl
      rw [if_pos (by rfl)]
      refine wp_buildSlice0 27 51 rfl Try.underlying27 Try.isInfoEn ?_
      have HB19 : Hid (Below w2.heap.size w2 (wx18.alloc (.cells #[] 51))) := hid (HB18.out.alloc HB18.out.size _)
      have HR19 : Hid ((wx18.alloc (.cells #[] 51)).ownsRow w2.heap.size 51 5 (.slice (some ⟨wx18.heap.size, 0, none⟩) 0 0) 0 []) := hid (own_empty _ _ _ _ HB18.out.size)
      have HQ19 : Hid (Blk (wx18.alloc (.cells #[] 51)) q18 51 #[.int .i64 k.t, .int .i64 k.c, .int .i64 k.e, .string (str b), .string (str p)]) := hid (HQ18.out.keep (((Below.refl _ _).alloc (Nat.le_refl _) _).block _ HQ18.out.lt))
      have HD19 : Hid (wx18.heap.size ≠ q18) := hid (by have := HQ18.out.lt; omega)
      generalize hr19 : wx18.heap.size = r19 at *
      clear hr19
      generalize hw19 : wx18.alloc (.cells #[] 51) = wx19 at *
      clear hw19
      refine hK.out _ _ (HB19.out.block w.heap.size HKW.out) (fun HS => ?_)
      clear hK K
      try simp only [Act.put, List.setIfInBounds_toArray, List.set_cons_zero, List.set_cons_succ]
      refine wpAnyH_ready (rs := [6]) (by kernel_rfl) (by simp) ?_
      refine AllReadyH.cons (o := ?ozflb6) ?hozflb6 (fun K hK => ?stepzflb6) AllReadyH.nil
      case hozflb6 => simp only [List.getElem?_toArray, List.getElem?_cons_succ, List.getElem?_cons_zero]; exact rfl
      rw [if_pos (by rfl)]
      obtain ⟨A20, c20, wx20, hrun20, hgr20⟩ := run_append_L (P := Try.prog) wx19 27 27 51 _ 5 56 Try.underlying27 Try.infoEn rfl (by decide) w2.heap.size (some ⟨r19, 0, none⟩) 0 0 [] HR19.out A s.L.length c (recs s.L) (recs_len _) (fun h0 => by obtain ⟨lb, hA, hlt, hrr⟩ := own_range HV2.out.row h0; exact ⟨lb, 0, hA, rangeAt_keep hrr (HB19.out.block lb hlt)⟩) (recs_cell _) (by have := HLL.out; omega) (by have := HLL.out; unfold maxLen; omega) HB19.out.size
      rw [Nat.zero_add, List.nil_append] at hgr20
      rw [Nat.zero_add] at hrun20
      refine wp_append_run 27 _ _ rfl _ _ _ rfl rfl hrun20 ?_
      have HR20 : Hid (wx20.ownsRow w2.heap.size 51 5 (.slice A20 s.L.length c20) s.L.length (recs s.L)) := hid hgr20.1
      have HB20 : Hid (Below w2.heap.size w2 wx20) := hid (HB19.out.grown hgr20.2.2.1 HB19.out.size (fun d hd => by injection hd with hd; have := own_ge HR19.out r19 rfl; have hd : r19 = d := hd; omega))
      have HQ20 : Hid (Blk wx20 q18 51 #[.int .i64 k.t, .int .i64 k.c, .int .i64 k.e, .string (str b), .string (str p)]) := hid (HQ19.out.keep (hgr20.2.2.1.block _ HQ19.out.lt (fun e => by injection e with e; exact HD19.out e.symm)))
      have HD20 : Hid (∀ d, A20.map (·.block) = some d → d ≠ q18) := hid (fun d hd => by
        have := HQ19.out.lt
        rcases hgr20.2.2.2 d hd with e | e
        · injection e with e; exact fun e2 => HD19.out (e.trans e2)
        · omega)
      clear hrun20 hgr20
      refine hK.out _ _ (HB20.out.block w.heap.size HKW.out) (fun HS => ?_)
      clear hK K
      try simp only [Act.put, List.setIfInBounds_toArray, List.set_cons_zero, List.set_cons_succ]
      refine wpAnyH_ready (rs := [12]) (by kernel_rfl) (by simp) ?_
      refine AllReadyH.cons (o := ?ozflbg12) ?hozflbg12 (fun K hK => ?stepzflbg12) AllReadyH.nil
      case hozflbg12 => simp only [List.getElem?_toArray, List.getElem?_cons_succ, List.getElem?_cons_zero]; exact rfl
      rw [if_pos (by rfl)]
      obtain ⟨A21, c21, w5, hrun21, hgr21⟩ := run_append_L (P := Try.prog) wx20 27 27 51 _ 5 56 Try.underlying27 Try.infoEn rfl (by decide) w2.heap.size A20 s.L.length c20 (recs s.L) HR20.out (some ⟨q18, 0, none⟩) 1 1 (rec5 (⟨k, b, p⟩ : En)) rfl (fun _ => ⟨q18, 0, rfl, fun j v hv => by rw [HQ20.out.cell, Nat.zero_add, List.getElem?_toArray]; exact hv⟩) (rec5_cell _) (by have := HLL.out; omega) (by have := HLL.out; unfold maxLen; omega) HB20.out.size
      have HB5 : Hid (Below w2.heap.size w2 w5) := hid (HB20.out.grown hgr21.2.2.1 HB20.out.size (fun d hd => own_ge HR20.out d hd))
      have HL5 := hid (RVAt.sealed HV2.out (⟨k, b, p⟩ : En) HB5.out hgr21.1)
      rw [HNN.out] at HL5 hrun21
      refine wp_append_run 27 _ _ rfl _ _ _ rfl rfl hrun21 ?_
      have eg5 := HB5.out.block g HGV.out
      have f5 := (HV2.out.blk.keep eg5).frozen 0
      have u0 := (HV2.out.blk.keep eg5).cell 0
      simp only [List.getElem?_toArray, List.getElem?_cons_zero] at u0
      have HV0 : Hid ((w5.setCell ⟨g, 0, none⟩ (.slice A21 NN c21)).cell? ⟨g, 0, none⟩ = some (.slice A21 NN c21)) := hid (by simpa using ((HV2.out.blk.keep eg5).store 0 (.slice A21 NN c21)).cell 0)
      clear hrun21 hgr21 eg5
      refine hK.out _ _ (HB5.out.block w.heap.size HKW.out) (fun HS => ?_)
      clear hK K
      try simp only [Act.put, List.setIfInBounds_toArray, List.set_cons_zero, List.set_cons_succ]
      refine wpAnyH_take (i := 13) (oi := ?oizflbg13) (v := ?vzflbg13) ?hizflbg13 (by kernel_rfl) (by kernel_rfl) (by kernel_rfl) ?hQzflbg13 ?hyzflbg13 HS ?restzflbg13
      case hizflbg13 => simp only [List.getElem?_toArray, List.getElem?_cons_succ, List.getElem?_cons_zero]; exact rfl
      case hQzflbg13 => exact fun _ _ _ h => h
      case hyzflbg13 =>
        refine Or.inl ⟨by rfl, ?_⟩
        intro wS hSw
        go_simp
        try with_reducible rfl
      try simp only [Act.put, List.setIfInBounds_toArray, List.set_cons_zero, List.set_cons_succ]
      refine wpAnyH_take (i := 14) (oi := ?oizflbg14) (v := ?vzflbg14) ?hizflbg14 (by kernel_rfl) (by kernel_rfl) (by kernel_rfl) ?hQzflbg14 ?hyzflbg14 HS ?restzflbg14
      case hizflbg14 => simp only [List.getElem?_toArray, List.getElem?_cons_succ, List.getElem?_cons_zero]; exact rfl
      case hQzflbg14 => exact fun _ _ _ h => h
      case hyzflbg14 =>
        refine Or.inl ⟨by rfl, ?_⟩
        intro wS hSw
        go_simp
        try with_reducible rfl
      try simp only [Act.put, List.setIfInBounds_toArray, List.set_cons_zero, List.set_cons_succ]
      refine wpAnyH_ready (rs := [15]) (by kernel_rfl) (by simp) ?_
      refine AllReadyH.cons (o := ?ozflbg15) ?hozflbg15 (fun K hK => ?stepzflbg15) AllReadyH.nil
      case hozflbg15 => simp only [List.getElem?_toArray, List.getElem?_cons_succ, List.getElem?_cons_zero]; exact rfl
      go_simp
      refine hK.out _ _ ((Below.heap_setCell w5 ⟨g, 0, none⟩ _ w.heap.size (fun e => by have e' : w.heap.size = g := e; have := HGW.out; omega)).trans (HB5.out.block w.heap.size HKW.out)) (fun HS => ?_)
      clear hK K
      try simp only [Act.put]
      refine wpAnyH_done (by kernel_rfl) ?_ _
      clear HS u0 f5
      have v0 := HV0.out
      go_wp2
      go_ret2
      exact ⟨rfl, RVLeft.after HBW.out HL5.out⟩
  case stepz11 =>
    rw [if_pos (by rfl)]
    obtain ⟨ie, hie, hz0, hz1, hz2⟩ := info_parts Try.infoEn
    refine wp_buildSlice 27 51 1 _ rfl #[.int .i64 k.t, .int .i64 k.c, .int .i64 k.e, .string (str b), .string (str p)] ie _ Try.underlying27 hie hz0 (by rw [hz1]; decide) (by rw [hz1]; decide) (by rw [hz1]; simp only [List.map_toArray, List.map_cons, List.map_nil]; exact filled_en k (str b) (str p)) ?_
    clear hie hz0 hz1 hz2
    have HB22 : Hid (Below w2.heap.size w2 (w2.drew.alloc (.cells #[.int .i64 k.t, .int .i64 k.c, .int .i64 k.e, .string (str b), .string (str p)] 51))) := hid (HBs.out.alloc HBs.out.size _)
    have HQ22 : Hid (Blk (w2.drew.alloc (.cells #[.int .i64 k.t, .int .i64 k.c, .int .i64 k.e, .string (str b), .string (str p)] 51)) w2.drew.heap.size 51 #[.int .i64 k.t, .int .i64 k.c, .int .i64 k.e, .string (str b), .string (str p)]) := hid (Blk.new w2.drew 51 #[.int .i64 k.t, .int .i64 k.c, .int .i64 k.e, .string (str b), .string (str p)])
    generalize hq22 : w2.drew.heap.size = q22 at *
    clear hq22
    generalize hw22 : w2.drew.alloc (.cells #[.int .i64 k.t, .int .i64 k.c, .int .i64 k.e, .string (str b), .string (str p)] 51) = wx22 at *
    clear hw22
    refine hK.out _ _ (HB22.out.block w.heap.size HKW.out) (fun HS => ?_)
    clear hK K
    try simp only [Act.put, List.setIfInBounds_toArray, List.set_cons_zero, List.set_cons_succ]
    refine wpAnyH_ready (rs := [1, 5]) (by kernel_rfl) (by simp) ?_
    refine (AllReadyH.cons (o := ?ozl1) ?hozl1 (fun K hK => ?stepzl1) (AllReadyH.cons (o := ?ozl5) ?hozl5 (fun K hK => ?stepzl5) AllReadyH.nil))
    case hozl1 => simp only [List.getElem?_toArray, List.getElem?_cons_succ, List.getElem?_cons_zero]; exact rfl
    case hozl5 => simp only [List.getElem?_toArray, List.getElem?_cons_succ, List.getElem?_cons_zero]; exact rfl
    case stepzl1 =>
      rw [if_pos (by rfl)]
      refine wp_buildSlice0 27 51 rfl Try.underlying27 Try.isInfoEn ?_
      have HB23 : Hid (Below w2.heap.size w2 (wx22.alloc (.cells #[] 51))) := hid (HB22.out.alloc HB22.out.size _)
      have HR23 : Hid ((wx22.alloc (.cells #[] 51)).ownsRow w2.heap.size 51 5 (.slice (some ⟨wx22.heap.size, 0, none⟩) 0 0) 0 []) := hid (own_empty _ _ _ _ HB22.out.size)
      have HQ23 : Hid (Blk (wx22.alloc (.cells #[] 51)) q22 51 #[.int .i64 k.t, .int .i64 k.c, .int .i64 k.e, .string (str b), .string (str p)]) := hid (HQ22.out.keep (((Below.refl _ _).alloc (Nat.le_refl _) _).block _ HQ22.out.lt))
      have HD23 : Hid (wx22.heap.size ≠ q22) := hid (by have := HQ22.out.lt; omega)
      generalize hr23 : wx22.heap.size = r23 at *
      clear hr23
      generalize hw23 : wx22.alloc (.cells #[] 51) = wx23 at *
      clear hw23
      refine hK.out _ _ (HB23.out.block w.heap.size HKW.out) (fun HS => ?_)
      clear hK K
      try simp only [Act.put, List.setIfInBounds_toArray, List.set_cons_zero, List.set_cons_succ]
      refine wpAnyH_ready (rs := [5]) (by kernel_rfl) (by simp) ?_
      refine AllReadyH.cons (o := ?ozlb5) ?hozlb5 (fun K hK => ?stepzlb5) AllReadyH.nil
      case hozlb5 => simp only [List.getElem?_toArray, List.getElem?_cons_succ, List.getElem?_cons_zero]; exact rfl
      rw [if_pos (by rfl)]
      refine wp_load_slice 27 (.tmp 35) rfl 51 Try.underlying27 g 0 rfl _ ((World.cell?_of_block (HB23.out.block g HGV.out)).trans yd) ?_
      refine hK.out _ _ (HB23.out.block w.heap.size HKW.out) (fun HS => ?_)
      clear hK K
      try simp only [Act.put, List.setIfInBounds_toArray, List.set_cons_zero, List.set_cons_succ]
      refine wpAnyH_ready (rs := [6]) (by kernel_rfl) (by simp) ?_
      refine AllReadyH.cons (o := ?ozlbf6) ?hozlbf6 (fun K hK => ?stepzlbf6) AllReadyH.nil
      case hozlbf6 => simp only [List.getElem?_toArray, List.getElem?_cons_succ, List.getElem?_cons_zero]; exact rfl
      rw [if_pos (by rfl)]
      obtain ⟨A24, c24, wx24, hrun24, hgr24⟩ := run_append_L (P := Try.prog) wx23 27 27 51 _ 5 56 Try.underlying27 Try.infoEn rfl (by decide) w2.heap.size (some ⟨r23, 0, none⟩) 0 0 [] HR23.out A s.L.length c (recs s.L) (recs_len _) (fun h0 => by obtain ⟨lb, hA, hlt, hrr⟩ := own_range HV2.out.row h0; exact ⟨lb, 0, hA, rangeAt_keep hrr (HB23.out.block lb hlt)⟩) (recs_cell _) (by have := HLL.out; omega) (by have := HLL.out; unfold maxLen; omega) HB23.out.size
      rw [Nat.zero_add, List.nil_append] at hgr24
      rw [Nat.zero_add] at hrun24
      refine wp_append_run 27 _ _ rfl _ _ _ rfl rfl hrun24 ?_
      have HR24 : Hid (wx24.ownsRow w2.heap.size 51 5 (.slice A24 s.L.length c24) s.L.length (recs s.L)) := hid hgr24.1
      have HB24 : Hid (Below w2.heap.size w2 wx24) := hid (HB23.out.grown hgr24.2.2.1 HB23.out.size (fun d hd => by injection hd with hd; have := own_ge HR23.out r23 rfl; have hd : r23 = d := hd; omega))
      have HQ24 : Hid (Blk wx24 q22 51 #[.int .i64 k.t, .int .i64 k.c, .int .i64 k.e, .string (str b), .string (str p)]) := hid (HQ23.out.keep (hgr24.2.2.1.block _ HQ23.out.lt (fun e => by injection e with e; exact HD23.out e.symm)))
      have HD24 : Hid (∀ d, A24.map (·.block) = some d → d ≠ q22) := hid (fun d hd => by
        have := HQ23.out.lt
        rcases hgr24.2.2.2 d hd with e | e
        · injection e with e; exact fun e2 => HD23.out (e.trans e2)
        · omega)
      clear hrun24 hgr24
      refine hK.out _ _ (HB24.out.block w.heap.size HKW.out) (fun HS => ?_)
      clear hK K
      try simp only [Act.put, List.setIfInBounds_toArray, List.set_cons_zero, List.set_cons_succ]
      refine wpAnyH_ready (rs := [12]) (by kernel_rfl) (by simp) ?_
      refine AllReadyH.cons (o := ?ozlbfg12) ?hozlbfg12 (fun K hK => ?stepzlbfg12) AllReadyH.nil
      case hozlbfg12 => simp only [List.getElem?_toArray, List.getElem?_cons_succ, List.getElem?_cons_zero]; exact rfl
      rw [if_pos (by rfl)]
      obtain ⟨A25, c25, w5, hrun25, hgr25⟩ := run_append_L (P := Try.prog) wx24 27 27 51 _ 5 56 Try.underlying27 Try.infoEn rfl (by decide) w2.heap.size A24 s.L.length c24 (recs s.L) HR24.out (some ⟨q22, 0, none⟩) 1 1 (rec5 (⟨k, b, p⟩ : En)) rfl (fun _ => ⟨q22, 0, rfl, fun j v hv => by rw [HQ24.out.cell, Nat.zero_add, List.getElem?_toArray]; exact hv⟩) (rec5_cell _) (by have := HLL.out; omega) (by have := HLL.out; unfold maxLen; omega) HB24.out.size
      have HB5 : Hid (Below w2.heap.size w2 w5) := hid (HB24.out.grown hgr25.2.2.1 HB24.out.size (fun d hd => own_ge HR24.out d hd))
      have HL5 := hid (RVAt.sealed HV2.out (⟨k, b, p⟩ : En) HB5.out hgr25.1)
      rw [HNN.out] at HL5 hrun25
      refine wp_append_run 27 _ _ rfl _ _ _ rfl rfl hrun25 ?_
      have eg5 := HB5.out.block g HGV.out
      have f5 := (HV2.out.blk.keep eg5).frozen 0
      have u0 := (HV2.out.blk.keep eg5).cell 0
      simp only [List.getElem?_toArray, List.getElem?_cons_zero] at u0
      have HV0 : Hid ((w5.setCell ⟨g, 0, none⟩ (.slice A25 NN c25)).cell? ⟨g, 0, none⟩ = some (.slice A25 NN c25)) := hid (by simpa using ((HV2.out.blk.keep eg5).store 0 (.slice A25 NN c25)).cell 0)
      clear hrun25 hgr25 eg5
      refine hK.out _ _ (HB5.out.block w.heap.size HKW.out) (fun HS => ?_)
      clear hK K
      try simp only [Act.put, List.setIfInBounds_toArray, List.set_cons_zero, List.set_cons_succ]
      refine wpAnyH_take (i := 13) (oi := ?oizlbfg13) (v := ?vzlbfg13) ?hizlbfg13 (by kernel_rfl) (by kernel_rfl) (by kernel_rfl) ?hQzlbfg13 ?hyzlbfg13 HS ?restzlbfg13
      case hizlbfg13 => simp only [List.getElem?_toArray, List.getElem?_cons_succ, List.getElem?_cons_zero]; exact rfl
      case hQzlbfg13 => exact fun _ _ _ h => h
      case hyzlbfg13 =>
        refine Or.inl ⟨by rfl, ?_⟩
        intro wS hSw
        go_simp
        try with_reducible rfl
      try simp only [Act.put, List.setIfInBounds_toArray, List.set_cons_zero, List.set_cons_succ]
      refine wpAnyH_take (i := 14) (oi := ?oizlbfg14) (v := ?vzlbfg14) ?hizlbfg14 (by kernel_rfl) (by kernel_rfl) (by kernel_rfl) ?hQzlbfg14 ?hyzlbfg14 HS ?restzlbfg14
      case hizlbfg14 => simp only [List.getElem?_toArray, List.getElem?_cons_succ, List.getElem?_cons_zero]; exact rfl
      case hQzlbfg14 => exact fun _ _ _ h => h
      case hyzlbfg14 =>
        refine Or.inl ⟨by rfl, ?_⟩
        intro wS hSw
        go_simp
        try with_reducible rfl
      try simp only [Act.put, List.setIfInBounds_toArray, List.set_cons_zero, List.set_cons_succ]
      refine wpAnyH_ready (rs := [15]) (by kernel_rfl) (by simp) ?_
      refine AllReadyH.cons (o := ?ozlbfg15) ?hozlbfg15 (fun K hK => ?stepzlbfg15) AllReadyH.nil
      case hozlbfg15 => simp only [List.getElem?_toArray, List.getElem?_cons_succ, List.getElem?_cons_zero]; exact rfl
      go_simp
      refine hK.out _ _ ((Below.heap_setCell w5 ⟨g, 0, none⟩ _ w.heap.size (fun e => by have e' : w.heap.size = g := e; have := HGW.out; omega)).trans (HB5.out.block w.heap.size HKW.out)) (fun HS => ?_)
      clear hK K
      try simp only [Act.put]
      refine wpAnyH_done (by kernel_rfl) ?_ _
      clear HS u0 f5
      have v0 := HV0.out
      go_wp2
      go_ret2
      exact ⟨rfl, RVLeft.after HBW.out HL5.out⟩
    case stepzl5 =>
      rw [if_pos (by rfl)]
      refine wp_load_slice 27 (.tmp 35) rfl 51 Try.underlying27 g 0 rfl _ ((World.cell?_of_block (HB22.out.block g HGV.out)).trans yd) ?_
      refine hK.out _ _ (HB22.out.block w.heap.size HKW.out) (fun HS => ?_)
      clear hK K
      try simp only [Act.put, List.setIfInBounds_toArray, List.set_cons_zero, List.set_cons_succ]
      refine wpAnyH_ready (rs := [1]) (by kernel_rfl) (by simp) ?_
      refine AllReadyH.cons (o := ?ozlf1) ?hozlf1 (fun K hK => ?stepzlf1) AllReadyH.nil
      case hozlf1 => simp only [List.getElem?_toArray, List.getElem?_cons_succ, List.getElem?_cons_zero]; exact rfl
      rw [if_pos (by rfl)]
      refine wp_buildSlice0 27 51 rfl Try.underlying27 Try.isInfoEn ?_
      have HB26 : Hid (Below w2.heap.size w2 (wx22.alloc (.cells #[] 51))) := hid (HB22.out.alloc HB22.out.size _)
      have HR26 : Hid ((wx22.alloc (.cells #[] 51)).ownsRow w2.heap.size 51 5 (.slice (some ⟨wx22.heap.size, 0, none⟩) 0 0) 0 []) := hid (own_empty _ _ _ _ HB22.out.size)
      have HQ26 : Hid (Blk (wx22.alloc (.cells #[] 51)) q22 51 #[.int .i64 k.t, .int .i64 k.c, .int .i64 k.e, .string (str b), .string (str p)]) := hid (HQ22.out.keep (((Below.refl _ _).alloc (Nat.le_refl _) _).block _ HQ22.out.lt))
      have HD26 : Hid (wx22.heap.size ≠ q22) := hid (by have := HQ22.out.lt; omega)
      generalize hr26 : wx22.heap.size = r26 at *
      clear hr26
      generalize hw26 : wx22.alloc (.cells #[] 51) = wx26 at *
      clear hw26
      refine hK.out _ _ (HB26.out.block w.heap.size HKW.out) (fun HS => ?_)
      clear hK K
      try simp only [Act.put, List.setIfInBounds_toArray, List.set_cons_zero, List.set_cons_succ]
      refine wpAnyH_ready (rs := [6]) (by kernel_rfl) (by simp) ?_
      refine AllReadyH.cons (o := ?ozlfb6) ?hozlfb6 (fun K hK => ?stepzlfb6) AllReadyH.nil
      case hozlfb6 => simp only [List.getElem?_toArray, List.getElem?_cons_succ, List.getElem?_cons_zero]; exact rfl
      rw [if_pos (by rfl)]
      obtain ⟨A27, c27, wx27, hrun27, hgr27⟩ := run_append_L (P := Try.prog) wx26 27 27 51 _ 5 56 Try.underlying27 Try.infoEn rfl (by decide) w2.heap.size (some ⟨r26, 0, none⟩) 0 0 [] HR26.out A s.L.length c (recs s.L) (recs_len _) (fun h0 => by obtain ⟨lb, hA, hlt, hrr⟩ := own_range HV2.out.row h0; exact ⟨lb, 0, hA, rangeAt_keep hrr (HB26.out.block lb hlt)⟩) (recs_cell _) (by have := HLL.out; omega) (by have := HLL.out; unfold maxLen; omega) HB26.out.size
      rw [Nat.zero_add, List.nil_append] at hgr27
      rw [Nat.zero_add] at hrun27
      refine wp_append_run 27 _ _ rfl _ _ _ rfl rfl hrun27 ?_
      have HR27 : Hid (wx27.ownsRow w2.heap.size 51 5 (.slice A27 s.L.length c27) s.L.length (recs s.L)) := hid hgr27.1
      have HB27 : Hid (Below w2.heap.size w2 wx27) := hid (HB26.out.grown hgr27.2.2.1 HB26.out.size (fun d hd => by injection hd with hd; have := own_ge HR26.out r26 rfl; have hd : r26 = d := hd; omega))
      have HQ27 : Hid (Blk wx27 q22 51 #[.int .i64 k.t, .int .i64 k.c, .int .i64 k.e, .string (str b), .string (str p)]) := hid (HQ26.out.keep (hgr27.2.2.1.block _ HQ26.out.lt (fun e => by injection e with e; exact HD26.out e.symm)))
      have HD27 : Hid (∀ d, A27.map (·.block) = some d → d ≠ q22) := hid (fun d hd => by
        have := HQ26.out.lt
        rcases hgr27.2.2.2 d hd with e | e
        · injection e with e; exact fun e2 => HD26.out (e.trans e2)
        · omega)
      clear hrun27 hgr27
      refine hK.out _ _ (HB27.out.block w.heap.size HKW.out) (fun HS => ?_)
      clear hK K
      try simp only [Act.put, List.setIfInBounds_toArray, List.set_cons_zero, List.set_cons_succ]
      refine wpAnyH_ready (rs := [12]) (by kernel_rfl) (by simp) ?_
      refine AllReadyH.cons (o := ?ozlfbg12) ?hozlfbg12 (fun K hK => ?stepzlfbg12) AllReadyH.nil
      case hozlfbg12 => simp only [List.getElem?_toArray, List.getElem?_cons_succ, List.getElem?_cons_zero]; exact rfl
      rw [if_pos (by rfl)]
      obtain ⟨A28, c28, w5, hrun28, hgr28⟩ := run_append_L (P := Try.prog) wx27 27 27 51 _ 5 56 Try.underlying27 Try.infoEn rfl (by decide) w2.heap.size A27 s.L.length c27 (recs s.L) HR27.out (some ⟨q22, 0, none⟩) 1 1 (rec5 (⟨k, b, p⟩ : En)) rfl (fun _ => ⟨q22, 0, rfl, fun j v hv => by rw [HQ27.out.cell, Nat.zero_add, List.getElem?_toArray]; exact hv⟩) (rec5_cell _) (by have := HLL.out; omega) (by have := HLL.out; unfold maxLen; omega) HB27.out.size
      have HB5 : Hid (Below w2.heap.size w2 w5) := hid (HB27.out.grown hgr28.2.2.1 HB27.out.size (fun d hd => own_ge HR27.out d hd))
      have HL5 := hid (RVAt.sealed HV2.out (⟨k, b, p⟩ : En) HB5.out hgr28.1)
      rw [HNN.out] at HL5 hrun28
      refine wp_append_run 27 _ _ rfl _ _ _ rfl rfl hrun28 ?_
      have eg5 := HB5.out.block g HGV.out
      have f5 := (HV2.out.blk.keep eg5).frozen 0
      have u0 := (HV2.out.blk.keep eg5).cell 0
      simp only [List.getElem?_toArray, List.getElem?_cons_zero] at u0
      have HV0 : Hid ((w5.setCell ⟨g, 0, none⟩ (.slice A28 NN c28)).cell? ⟨g, 0, none⟩ = some (.slice A28 NN c28)) := hid (by simpa using ((HV2.out.blk.keep eg5).store 0 (.slice A28 NN c28)).cell 0)
      clear hrun28 hgr28 eg5
      refine hK.out _ _ (HB5.out.block w.heap.size HKW.out) (fun HS => ?_)
      clear hK K
      try simp only [Act.put, List.setIfInBounds_toArray, List.set_cons_zero, List.set_cons_succ]
      refine wpAnyH_take (i := 13) (oi := ?oizlfbg13) (v := ?vzlfbg13) ?hizlfbg13 (by kernel_rfl) (by kernel_rfl) (by kernel_rfl) ?hQzlfbg13 ?hyzlfbg13 HS ?restzlfbg13
      case hizlfbg13 => simp only [List.getElem?_toArray, List.getElem?_cons_succ, List.getElem?_cons_zero]; exact rfl
      case hQzlfbg13 => exact fun _ _ _ h => h
      case hyzlfbg13 =>
        refine Or.inl ⟨by rfl, ?_⟩
        intro wS hSw
        go_simp
        try with_reducible rfl
      try simp only [Act.put, List.setIfInBounds_toArray, List.set_cons_zero, List.set_cons_succ]
      refine wpAnyH_take (i := 14) (oi := ?oizlfbg14) (v := ?vzlfbg14) ?hizlfbg14 (by kernel_rfl) (by kernel_rfl) (by kernel_rfl) ?hQzlfbg14 ?hyzlfbg14 HS ?restzlfbg14
      case hizlfbg14 => simp only [List.getElem?_toArray, List.getElem?_cons_succ, List.getElem?_cons_zero]; exact rfl
      case hQzlfbg14 => exact fun _ _ _ h => h
      case hyzlfbg14 =>
        refine Or.inl ⟨by rfl, ?_⟩
        intro wS hSw
        go_simp
        try with_reducible rfl
      try simp only [Act.put, List.setIfInBounds_toArray, List.set_cons_zero, List.set_cons_succ]
      refine wpAnyH_ready (rs := [15]) (by kernel_rfl) (by simp) ?_
      refine AllReadyH.cons (o := ?ozlfbg15) ?hozlfbg15 (fun K hK => ?stepzlfbg15) AllReadyH.nil
      case hozlfbg15 => simp only [List.getElem?_toArray, List.getElem?_cons_succ, List.getElem?_cons_zero]; exact rfl
      go_simp
      refine hK.out _ _ ((Below.heap_setCell w5 ⟨g, 0, none⟩ _ w.heap.size (fun e => by have e' : w.heap.size = g := e; have := HGW.out; omega)).trans (HB5.out.block w.heap.size HKW.out)) (fun HS => ?_)
      clear hK K
      try simp only [Act.put]
      refine wpAnyH_done (by kernel_rfl) ?_ _
      clear HS u0 f5
      have v0 := HV0.out
      go_wp2
      go_ret2
      exact ⟨rfl, RVLeft.after HBW.out HL5.out⟩
end Go.Proofs.Ytaailoodhaibiaa
