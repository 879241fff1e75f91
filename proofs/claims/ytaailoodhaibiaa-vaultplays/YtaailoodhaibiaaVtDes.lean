/- What Destroy of a vault does: a key is destroyed, and what was sealed with it isn't kept. -/
import Derived.Test.YtaailoodhaibiaaVtSeal
namespace Go.Proofs.Ytaailoodhaibiaa
open Go.RowKit

/-- What is left of a handle of a destroyed key. -/
def nilE (k : Ky) : Ep := ⟨k, [], [], none, 0⟩
def wipeE (k : Ky) (x : Ep) : Ep := if x.k = k then nilE k else x
theorem wipeE_en (k : Ky) (x : Ep) : (wipeE k x).en = wipe k x.en := by
  unfold wipeE wipe
  by_cases h : x.k = k
  · rw [if_pos h, if_pos (show x.en.k = k from h)]
    rfl
  · rw [if_neg h, if_neg (show ¬ x.en.k = k from h)]
def mix (k : Ky) (es : List Ep) (j : Nat) : List Ep := (es.take j).map (wipeE k) ++ es.drop j
theorem mix_len (k : Ky) (es : List Ep) (j : Nat) : (mix k es j).length = es.length := by simp [mix]; omega
theorem mix_zero (k : Ky) (es : List Ep) : mix k es 0 = es := by simp [mix]
theorem mix_all (k : Ky) (es : List Ep) : mix k es es.length = es.map (wipeE k) := by simp [mix]
theorem mix_at (k : Ky) (es : List Ep) {j : Nat} (hj : j < es.length) : (mix k es j)[j]'(by rw [mix_len]; exact hj) = es[j] := by
  unfold mix
  rw [List.getElem_append_right (by simp; omega)]
  simp [Nat.min_eq_left (Nat.le_of_lt hj)]
theorem mix_succ (k : Ky) (es : List Ep) {j : Nat} (hj : j < es.length) : mix k es (j + 1) = (mix k es j).set j (wipeE k es[j]) := by
  unfold mix
  rw [List.take_succ_eq_append_getElem hj, List.map_append, List.set_append_right _ _ (by simp; omega)]
  have : j - ((es.take j).map (wipeE k)).length = 0 := by simp; omega
  have e : (es.drop j).set 0 (wipeE k es[j]) = wipeE k es[j] :: es.drop (j + 1) := by rw [List.drop_eq_getElem_cons hj]; rfl
  rw [this, e]
  simp
theorem mix_keep (k : Ky) (es : List Ep) {j : Nat} (hj : j < es.length) (h : es[j].k ≠ k) : mix k es (j + 1) = mix k es j := by
  rw [mix_succ k es hj, wipeE, if_neg h]
  conv => lhs; rw [← mix_at k es hj]
  exact List.set_getElem_self _
theorem ecs_set (es : List Ep) {j : Nat} (hj : j < es.length) (x : Ep) : ecs (es.set j x) = ecs (es.take j) ++ (x.cells ++ ecs (es.drop (j + 1))) := by
  rw [List.set_eq_take_append_cons_drop, if_pos hj, ecs_app]
  rfl
theorem ecs_parts (es : List Ep) {j : Nat} (hj : j < es.length) : (ecs es).take (j * 5) = ecs (es.take j) ∧ (ecs es).drop (j * 5 + 5) = ecs (es.drop (j + 1)) := by
  have h1 : (ecs (es.take j)).length = j * 5 := by rw [ecs_len, List.length_take, Nat.min_eq_left (Nat.le_of_lt hj)]
  have h2 : (es[j].cells).length = 5 := rfl
  rw [ecs_split es hj]
  refine ⟨by rw [← h1, List.take_left], ?_⟩
  rw [← List.append_assoc, show j * 5 + 5 = (ecs (es.take j) ++ es[j].cells).length by rw [List.length_append, h1, h2], List.drop_left]
theorem own_wipe {w : World} {b c : Nat} {es : List Ep} (h : w.ownsRow 0 65 5 (.slice (some ⟨b, 0, none⟩) es.length c) es.length (ecs es)) {j : Nat} (hj : j < es.length) (x : Ep) :
    (w.setCells b (j * 5) x.cells).ownsRow 0 65 5 (.slice (some ⟨b, 0, none⟩) (es.set j x).length c) (es.set j x).length (ecs (es.set j x)) ∧ w.there b (j * 5) 5 := by
  rcases h.2 with ⟨hv, _⟩ | ⟨g', cap, cur, hv, hb, hg, hnc, hcm, hcs, ht⟩
  · cases hv
  injection hv with hA _ hcap
  injection hA with hA
  injection hA with hA
  subst hA hcap
  have hB : Blk w b 65 cur := hg
  have hx5 : x.cells.length = 5 := rfl
  have hsz : es.length * 5 ≤ cur.size := by have h1 : cur.size = c * 5 := hcs; omega
  have hth : w.there b (j * 5) 5 := fun i hi => ⟨by rw [hB.cell, Array.getElem?_eq_getElem (by omega)]; rfl, hB.frozen _⟩
  obtain ⟨cs', h1, h2⟩ := Blk.setCells x.cells (j * 5) w cur hB (by rw [hx5]; omega)
  refine ⟨⟨by rw [ecs_len], .inr ⟨b, c, cs', by rw [List.length_set], hb, h1, by rw [List.length_set]; exact hnc, hcm, ?_, ?_⟩⟩, hth⟩
  · have := congrArg List.length h2
    simp only [Array.length_toList, List.length_append, List.length_take, List.length_drop, hx5] at this
    rw [this, ← hcs]
    omega
  · obtain ⟨p1, p2⟩ := ecs_parts es hj
    have hl : (ecs es).length = es.length * 5 := ecs_len es
    have ht' : cur.toList.take (es.length * 5) = ecs es := ht
    have hcur : cur.toList = ecs es ++ cur.toList.drop (es.length * 5) := by rw [← ht', List.take_append_drop]
    have q1 : cur.toList.take (j * 5) = ecs (es.take j) := by rw [← p1, ← ht', List.take_take, Nat.min_eq_left (by omega)]
    have q2 : cur.toList.drop (j * 5 + 5) = ecs (es.drop (j + 1)) ++ cur.toList.drop (es.length * 5) := by
      conv => lhs; rw [hcur]
      rw [List.drop_append_of_le_length (by omega), p2]
    have q3 : ecs (es.take j) ++ x.cells ++ (ecs (es.drop (j + 1)) ++ cur.toList.drop (es.length * 5)) = ecs (es.set j x) ++ cur.toList.drop (es.length * 5) := by rw [ecs_set es hj x]; simp [List.append_assoc]
    rw [List.length_set, h2, hx5, q1, q2, q3]
    exact List.take_left' (by rw [ecs_len, List.length_set])

/-- While keys are struck out of the row. -/
structure Dst (w wr : World) (F : Nat → Prop) (g : Nat) (G : List Ky) (m : Nat) (A : Option Addr) (c : Nat) (es : List Ep) (kb : Nat) (k : Ky) (j : Nat) : Prop where
  at_ : VaAt wr F g ⟨(mix k es j).map Ep.en, G⟩ m A c (mix k es j)
  kp : Kp F w wr
  key : Blk wr kb 32 #[.int .i64 k.t, .int .i64 k.c, .int .i64 k.e]
section
variable {w wr : World} {F : Nat → Prop} {g : Nat} {G : List Ky} {m : Nat} {A : Option Addr} {c : Nat} {es : List Ep} {kb : Nat} {k : Ky} {j : Nat}
theorem Dst.bel (h : Dst w wr F g G m A c es kb k j) {wr' : World} (hb : Below wr.heap.size wr wr') : Dst w wr' F g G m A c es kb k j := ⟨h.at_.bel hb, h.kp.trans (Kp.ofBelow hb), h.key.keep (hb.block kb h.key.lt)⟩
theorem Dst.cell (h : Dst w wr F g G m A c es kb k j) : wr.cell? ⟨g, 0, none⟩ = some (.slice A es.length c) := by
  have := h.at_.cells.1
  rwa [mix_len] at this
theorem Dst.elem (h : Dst w wr F g G m A c es kb k j) (hj : j < es.length) : ∃ b, A = some ⟨b, 0, none⟩ ∧ b < wr.heap.size ∧ wr.rangeAt b (j * 5) es[j].cells := by
  obtain ⟨b, h1, h2, h3⟩ := h.at_.range (j := j) (by rw [mix_len]; exact hj)
  rw [mix_at k es hj] at h3
  exact ⟨b, h1, h2, h3⟩
theorem Dst.keep (h : Dst w wr F g G m A c es kb k j) (hj : j < es.length) (hne : es[j].k ≠ k) : Dst w wr F g G m A c es kb k (j + 1) := by
  refine ⟨?_, h.kp, h.key⟩
  rw [mix_keep k es hj hne]
  exact h.at_
theorem Dst.wipe {b : Nat} (h : Dst w wr F g G m (some ⟨b, 0, none⟩) c es kb k j) (hj : j < es.length) (he : es[j].k = k) (hkb : ¬ F kb) : Dst w (wr.setCells b (j * 5) (nilE k).cells) F g G m (some ⟨b, 0, none⟩) c es kb k (j + 1) := by
  have hj' : j < (mix k es j).length := by rw [mix_len]; exact hj
  have hm : mix k es (j + 1) = (mix k es j).set j (nilE k) := by rw [mix_succ k es hj, wipeE, if_pos he]
  obtain ⟨h1, h2⟩ := own_wipe h.at_.row hj' (nilE k)
  have hg := grown_setCells b (nilE k).cells (j * 5) wr
  have Ab := h.at_.Ag b rfl
  have kb_ : ∀ i, i < wr.heap.size → i ≠ b → (wr.setCells b (j * 5) (nilE k).cells).heap[i]? = wr.heap[i]? := fun i hi hne => hg.block i hi (fun e => hne (by injection e))
  have lt := h.at_.F
  refine ⟨?_, h.kp.trans (Kp.setCells wr b _ _ Ab.2.2), h.key.keep (kb_ kb h.key.lt (fun e => hkb (e ▸ Ab.2.2)))⟩
  rw [hm]
  refine ⟨by have := h.at_.blk.keep (kb_ g (lt g h.at_.Fg) (Ne.symm Ab.1)); rw [List.length_set]; exact this, h1, rfl, fun x hx => ?_, ?_, h.at_.gm, h.at_.Ag, h.at_.Fg, h.at_.Fm, fun i hi => Nat.lt_of_lt_of_le (lt i hi) hg.size⟩
  · rcases List.mem_or_eq_of_mem_set hx with hx | rfl
    · obtain ⟨x1, x2, x3⟩ := h.at_.bts x hx
      exact ⟨x1.at1 hg.size fun u hu => kb_ u (lt u (x3 u hu).1) (fun e => (x3 u hu).2.2.2 (by rw [e]; rfl)), x2, x3⟩
    · exact ⟨Bts.nil _ _ _ _, Nat.zero_le _, fun u hu => by cases hu⟩
  · obtain ⟨n, D, m1, m2⟩ := h.at_.map
    exact ⟨n, D, ownsMap_keep m1 (kb_ m (lt m h.at_.Fm) (Ne.symm Ab.2.1)), m2⟩
theorem Dst.there {b : Nat} (h : Dst w wr F g G m (some ⟨b, 0, none⟩) c es kb k j) (hj : j < es.length) : wr.there b (j * 5) 5 := (own_wipe h.at_.row (show j < (mix k es j).length by rw [mix_len]; exact hj) (nilE k)).2
theorem Dst.left (h : Dst w wr F g G m A c es kb k es.length) {s : Va} (hs : es.map Ep.en = s.L) (hG : G = s.G ++ [k]) : VLeft w wr F g (s.destroy k) := by
  refine ⟨F, ⟨m, A, c, mix k es es.length, ?_⟩, h.kp, fun j hj => .inl hj⟩
  · have e : (mix k es es.length).map Ep.en = (s.destroy k).L := by
      show _ = s.L.map (Go.Proofs.Ytaailoodhaibiaa.wipe k)
      rw [mix_all, ← hs, List.map_map, List.map_map]
      exact List.map_congr_left fun x _ => wipeE_en k x
    have := h.at_
    rw [e, hG] at this
    exact this
end

theorem wp_mapUpdate {op : Oper} {a : Act} {w w' : World} {K : Act → World → Prop} {Q : Exit → Act → World → Prop} (t : TypeId) (m x v : Operand) (ho : op.op = .mapUpdate t m x v) (M k u : Value) (hm : a.eval m = M) (hx : a.eval x = k) (hv : a.eval v = u)
    (hrun : (Instr.mapUpdate t M k u).run Try.prog w = .ok () w') (h : K (a.put op.dst undef) w') : op.wp Try.prog a w K Q := by
  unfold Oper.wp execOp
  simp only [ho, hm, hx, hv, Sem.run_bind, hrun, Result.andThen_ok]
  exact h

theorem built_nil (k : Ky) : Try.prog.built 65 [(0, (.agg #[.int .i64 (k).t, .int .i64 (k).c, .int .i64 (k).e]))] = some (nilE k).cells.toArray := by kernel_rfl

theorem destroy_nil (w : World) (k : Ky) :
    Calls Try.prog 13 #[.pointer none, (.agg #[.int .i64 (k).t, .int .i64 (k).c, .int .i64 (k).e])] w fun e w' => e = .returned (.tuple #[]) ∧ Below w.heap.size w w' := by
  have HB1 : Hid (Below w.heap.size w (w.alloc (.cells #[.int .i64 k.t, .int .i64 k.c, .int .i64 k.e] 32))) := hid ((Below.refl _ _).alloc (Nat.le_refl _) _)
  go_enter Try.func13, Try.ntmps13
  go_wp2
  refine bodyPost_ret (results_none rfl _ _ _) rfl ?_
  exact ⟨rfl, HB1.out⟩

set_option maxRecDepth 20000 in
set_option maxHeartbeats 4000000 in
theorem destroy_any (w : World) (F : Nat → Prop) (g : Nat) (s : Va) (h : Vlt w F g s) (k : Ky) (hk : k.wf) (hL : s.L.length ≤ 1000000) (hG : s.G.length ≤ 1000000) :
    Calls Try.prog 13 #[.pointer (some ⟨g, 0, none⟩), (.agg #[.int .i64 (k).t, .int .i64 (k).c, .int .i64 (k).e])] w fun e w' => e = .returned (.tuple #[]) ∧ VLeft w w' F g (s.destroy k) := by
  obtain ⟨m, A, c, es, h⟩ := h
  have hb1 : Below w.heap.size w (w.alloc (.cells #[.int .i64 k.t, .int .i64 k.c, .int .i64 k.e] 32)) := (Below.refl _ _).alloc (Nat.le_refl _) _
  have hB := Blk.new w 32 #[.int .i64 k.t, .int .i64 k.c, .int .i64 k.e]
  have HV := hid (h.bel hb1)
  have HVF := hid h.F
  have HKP := hid (Kp.ofBelow (F := F) hb1)
  have HB := hid hB
  have HK := hid hk
  have HG := hid hG
  have HLE : Hid (es.length ≤ 1000000) := hid (by rw [h.len]; exact hL)
  have HNF : Hid (¬ F w.heap.size) := hid (fun e => by have := h.F _ e; omega)
  have HSL := hid h.ens
  clear h hk hG hL hb1 hB
  go_enter Try.func13, Try.ntmps13
  go_wp2_with fail
  generalize w.alloc (.cells #[.int .i64 k.t, .int .i64 k.c, .int .i64 k.e] 32) = w1 at *
  refine wp_region_held_drew (S := fun wx => wx.heap[g]? = w1.heap[g]? ∧ wx.heap[w.heap.size]? = w1.heap[w.heap.size]?) (by kernel_rfl) ⟨rfl, rfl⟩ (fun HS => ?_)
  refine wpAnyH_take (i := 0) (oi := ?oi0) (v := ?v0) ?hi0 (by kernel_rfl) (by kernel_rfl) (by kernel_rfl) ?hQ0 ?hy0 HS ?rest0
  case hi0 => simp only [List.getElem?_toArray, List.getElem?_cons_zero]; exact rfl
  case hQ0 => exact fun _ _ _ h => h
  case hy0 =>
    refine Or.inl ⟨by rfl, ?_⟩
    intro wS hSw
    go_simp
    try with_reducible rfl
  try simp only [Act.put, List.setIfInBounds_toArray, List.set_cons_zero, List.set_cons_succ]
  refine wpAnyH_take (i := 1) (oi := ?oi1) (v := ?v1) ?hi1 (by kernel_rfl) (by kernel_rfl) (by kernel_rfl) ?hQ1 ?hy1 HS ?rest1
  case hi1 => simp only [List.getElem?_toArray, List.getElem?_cons_succ, List.getElem?_cons_zero]; exact rfl
  case hQ1 => exact fun _ _ _ h => h
  case hy1 =>
    refine Or.inl ⟨by rfl, ?_⟩
    intro wS hSw
    go_simp
    try with_reducible rfl
  try simp only [Act.put, List.setIfInBounds_toArray, List.set_cons_zero, List.set_cons_succ]
  refine wpAnyH_take (i := 2) (oi := ?oi2) (v := ?v2) ?hi2 (by kernel_rfl) (by kernel_rfl) (by kernel_rfl) ?hQ2 ?hy2 HS ?rest2
  case hi2 => simp only [List.getElem?_toArray, List.getElem?_cons_succ, List.getElem?_cons_zero]; exact rfl
  case hQ2 => exact fun _ _ _ h => h
  case hy2 =>
    refine Or.inl ⟨by rfl, ?_⟩
    intro wS hSw
    go_simp
    try with_reducible rfl
  try simp only [Act.put, List.setIfInBounds_toArray, List.set_cons_zero, List.set_cons_succ]
  refine wpAnyH_take (i := 3) (oi := ?oi3) (v := ?v3) ?hi3 (by kernel_rfl) (by kernel_rfl) (by kernel_rfl) ?hQ3 ?hy3 HS ?rest3
  case hi3 => simp only [List.getElem?_toArray, List.getElem?_cons_succ, List.getElem?_cons_zero]; exact rfl
  case hQ3 => exact fun _ _ _ h => h
  case hy3 =>
    refine Or.inl ⟨by rfl, ?_⟩
    intro wS hSw
    have c1 := (HV.out.blk.keep hSw.1).cell 1
    simp only [List.getElem?_toArray, List.getElem?_cons_zero, List.getElem?_cons_succ] at c1
    go_simp
    try with_reducible rfl
  try simp only [Act.put, List.setIfInBounds_toArray, List.set_cons_zero, List.set_cons_succ]
  refine wpAnyH_take (i := 4) (oi := ?oi4) (v := ?v4) ?hi4 (by kernel_rfl) (by kernel_rfl) (by kernel_rfl) ?hQ4 ?hy4 HS ?rest4
  case hi4 => simp only [List.getElem?_toArray, List.getElem?_cons_succ, List.getElem?_cons_zero]; exact rfl
  case hQ4 => exact fun _ _ _ h => h
  case hy4 =>
    refine Or.inl ⟨by rfl, ?_⟩
    intro wS hSw
    have hKS := HB.out.keep hSw.2
    have c0 := hKS.cell 0
    have c1 := hKS.cell 1
    have c2 := hKS.cell 2
    simp only [List.getElem?_toArray, List.getElem?_cons_zero, List.getElem?_cons_succ] at c0 c1 c2
    go_simp
    try with_reducible rfl
  try simp only [Act.put, List.setIfInBounds_toArray, List.set_cons_zero, List.set_cons_succ]
  refine wpAnyH_take (i := 5) (oi := ?oi5) (v := ?v5) ?hi5 (by kernel_rfl) (by kernel_rfl) (by kernel_rfl) ?hQ5 ?hy5 HS ?rest5
  case hi5 => simp only [List.getElem?_toArray, List.getElem?_cons_succ, List.getElem?_cons_zero]; exact rfl
  case hQ5 => exact fun _ _ _ h => h
  case hy5 =>
    refine Or.inl ⟨by rfl, ?_⟩
    intro wS hSw
    go_simp
    try with_reducible rfl
  try simp only [Act.put, List.setIfInBounds_toArray, List.set_cons_zero, List.set_cons_succ]
  refine wpAnyH_ready (rs := [6]) (by kernel_rfl) (by simp) ?_
  refine AllReadyH.cons (o := ?o6) ?ho6 (fun K hK => ?step6) AllReadyH.nil
  case ho6 => simp only [List.getElem?_toArray, List.getElem?_cons_succ, List.getElem?_cons_zero]; exact rfl
  rw [if_pos (by rfl)]
  obtain ⟨w2, hrun, hg2, hv2⟩ := (HV.out.bel (Below.refl _ _).drew).mark k HK.out HG.out
  refine wp_mapUpdate 58 _ _ _ rfl _ _ _ rfl rfl rfl hrun ?_
  have HG2 : Hid (w2.heap[g]? = w1.heap[g]?) := hid (hg2.block g (HV.out.F g HV.out.Fg) (fun e => HV.out.gm (by injection e)))
  have HK2 : Hid (w2.heap[w.heap.size]? = w1.heap[w.heap.size]?) := hid (hg2.block w.heap.size HB.out.lt (fun e => HNF.out (by injection e with e; rw [e]; exact HV.out.Fm)))
  have HD : Hid (Dst w w2 F g (s.G ++ [k]) m A c es w.heap.size k 0) := hid ⟨by rw [mix_zero, HV.out.ens]; exact hv2, (HKP.out.trans (Kp.drew F w1)).trans (Kp.grown hg2 (fun i hi => by injection hi with hi; subst hi; exact .inl HV.out.Fm)), HB.out.keep HK2.out⟩
  clear hrun hg2 hv2
  refine hK.out _ _ ⟨HG2.out, HK2.out⟩ (fun HS => ?_)
  clear hK K
  try simp only [Act.put]
  refine wpAnyH_done (by kernel_rfl) ?_ _
  clear HS HG2 HK2 HV HKP HB
  have h0 := HD.out.cell
  go_wp2_with fail
  go_loopg [18] es.length (fun kk iv wr => ∃ (j : Nat), iv = .int .i64 (j : Int) ∧ Hid (kk = es.length - j) ∧ Hid (j ≤ es.length) ∧ Hid (Dst w wr F g (s.G ++ [k]) m A c es w.heap.size k j))
  case atStart => exact ⟨0, rfl, hid (by omega), hid (Nat.zero_le _), HD⟩
  case round =>
    obtain ⟨j, rfl, hgk, hj, hI⟩ := hrel
    clear HD h0
    rcases Nat.lt_or_ge j es.length with hlt | hge
    · have HLT := hid hlt
      obtain ⟨b, rfl, hbl, hR⟩ := hI.out.elem hlt
      have j1 : (0 : Int) ≤ (j : Int) := by omega
      have j2 : (j : Int) < (es.length : Int) := by omega
      have j3 : decide ((j : Int) < (es.length : Int)) = true := by simpa using hlt
      have j4 : decide (j < es.length) = true := by simpa using hlt
      have wj : wrap64 ((j : Int) + 1) = ((j + 1 : Nat) : Int) := by have := HLE.out; unfold wrap64; omega
      have heq := eq_key es[j].k k
      have HRK : Hid (∀ wx, Below wr.heap.size wr wx → wx.cell? ⟨g, 0, none⟩ = some (.slice (some ⟨b, 0, none⟩) es.length c) ∧ wx.rangeAt b (j * 5) [.int .i64 es[j].k.t, .int .i64 es[j].k.c, .int .i64 es[j].k.e] ∧ wx.cell? ⟨w.heap.size, 0, none⟩ = some (.int .i64 k.t) ∧ wx.cell? ⟨w.heap.size, 1, none⟩ = some (.int .i64 k.c) ∧ wx.cell? ⟨w.heap.size, 2, none⟩ = some (.int .i64 k.e)) := hid (fun wx hx => by
        have hk := (hI.out.bel hx).key
        refine ⟨(hI.out.bel hx).cell, fun i v hv => (rangeAt_keep hR (hx.block b hbl)) i v ?_, by simpa using hk.cell 0, by simpa using hk.cell 1, by simpa using hk.cell 2⟩
        have hi : i < 3 := (List.getElem?_eq_some_iff.1 hv).1
        rw [← hv]
        match i, hi with
        | 0, _ => rfl
        | 1, _ => rfl
        | 2, _ => rfl)
      by_cases he : es[j].k = k
      · have HE := hid he
        rw [decide_eq_true he] at heq
        clear hR hbl he hlt
        as_aux_lemma =>
        go_wp2_with fail
        refine wp_region_held_drew (S := fun wx => Below wr.heap.size wr wx) (by kernel_rfl) (Below.refl _ _).drew (fun HS => ?_)
        refine wpAnyH_take (i := 0) (oi := ?oix0) (v := ?vx0) ?hix0 (by kernel_rfl) (by kernel_rfl) (by kernel_rfl) ?hQx0 ?hyx0 HS ?restx0
        case hix0 => simp only [List.getElem?_toArray, List.getElem?_cons_zero]; exact rfl
        case hQx0 => exact fun _ _ _ h => h
        case hyx0 =>
          refine Or.inl ⟨by rfl, ?_⟩
          intro wS hSw
          go_simp
          try with_reducible rfl
        try simp only [Act.put, List.setIfInBounds_toArray, List.set_cons_zero, List.set_cons_succ]
        refine wpAnyH_take (i := 1) (oi := ?oix1) (v := ?vx1) ?hix1 (by kernel_rfl) (by kernel_rfl) (by kernel_rfl) ?hQx1 ?hyx1 HS ?restx1
        case hix1 => simp only [List.getElem?_toArray, List.getElem?_cons_succ, List.getElem?_cons_zero]; exact rfl
        case hQx1 => exact fun _ _ _ h => h
        case hyx1 =>
          refine Or.inl ⟨by rfl, ?_⟩
          intro wS hSw
          go_simp
          try with_reducible rfl
        try simp only [Act.put, List.setIfInBounds_toArray, List.set_cons_zero, List.set_cons_succ]
        refine wpAnyH_take (i := 2) (oi := ?oix2) (v := ?vx2) ?hix2 (by kernel_rfl) (by kernel_rfl) (by kernel_rfl) ?hQx2 ?hyx2 HS ?restx2
        case hix2 => simp only [List.getElem?_toArray, List.getElem?_cons_succ, List.getElem?_cons_zero]; exact rfl
        case hQx2 => exact fun _ _ _ h => h
        case hyx2 =>
          refine Or.inl ⟨by rfl, ?_⟩
          intro wS hSw
          go_simp
          try with_reducible rfl
        try simp only [Act.put, List.setIfInBounds_toArray, List.set_cons_zero, List.set_cons_succ]
        refine wpAnyH_take (i := 3) (oi := ?oix3) (v := ?vx3) ?hix3 (by kernel_rfl) (by kernel_rfl) (by kernel_rfl) ?hQx3 ?hyx3 HS ?restx3
        case hix3 => simp only [List.getElem?_toArray, List.getElem?_cons_succ, List.getElem?_cons_zero]; exact rfl
        case hQx3 => exact fun _ _ _ h => h
        case hyx3 =>
          refine Or.inl ⟨by rfl, ?_⟩
          intro wS hSw
          obtain ⟨g0, r0, k0, k1, k2⟩ := HRK.out wS hSw
          go_simp
          try with_reducible rfl
        try simp only [Act.put, List.setIfInBounds_toArray, List.set_cons_zero, List.set_cons_succ]
        refine wpAnyH_take (i := 4) (oi := ?oix4) (v := ?vx4) ?hix4 (by kernel_rfl) (by kernel_rfl) (by kernel_rfl) ?hQx4 ?hyx4 HS ?restx4
        case hix4 => simp only [List.getElem?_toArray, List.getElem?_cons_succ, List.getElem?_cons_zero]; exact rfl
        case hQx4 => exact fun _ _ _ h => h
        case hyx4 =>
          refine Or.inl ⟨by rfl, ?_⟩
          intro wS hSw
          go_simp
          try with_reducible rfl
        try simp only [Act.put, List.setIfInBounds_toArray, List.set_cons_zero, List.set_cons_succ]
        refine wpAnyH_take (i := 5) (oi := ?oix5) (v := ?vx5) ?hix5 (by kernel_rfl) (by kernel_rfl) (by kernel_rfl) ?hQx5 ?hyx5 HS ?restx5
        case hix5 => simp only [List.getElem?_toArray, List.getElem?_cons_succ, List.getElem?_cons_zero]; exact rfl
        case hQx5 => exact fun _ _ _ h => h
        case hyx5 =>
          refine Or.inl ⟨by rfl, ?_⟩
          intro wS hSw
          go_simp
          try with_reducible rfl
        try simp only [Act.put, List.setIfInBounds_toArray, List.set_cons_zero, List.set_cons_succ]
        refine wpAnyH_take (i := 6) (oi := ?oix6) (v := ?vx6) ?hix6 (by kernel_rfl) (by kernel_rfl) (by kernel_rfl) ?hQx6 ?hyx6 HS ?restx6
        case hix6 => simp only [List.getElem?_toArray, List.getElem?_cons_succ, List.getElem?_cons_zero]; exact rfl
        case hQx6 => exact fun _ _ _ h => h
        case hyx6 =>
          refine Or.inl ⟨by rfl, ?_⟩
          intro wS hSw
          go_simp
          try with_reducible rfl
        try simp only [Act.put, List.setIfInBounds_toArray, List.set_cons_zero, List.set_cons_succ]
        refine wpAnyH_take (i := 7) (oi := ?oix7) (v := ?vx7) ?hix7 (by kernel_rfl) (by kernel_rfl) (by kernel_rfl) ?hQx7 ?hyx7 HS ?restx7
        case hix7 => simp only [List.getElem?_toArray, List.getElem?_cons_succ, List.getElem?_cons_zero]; exact rfl
        case hQx7 => exact fun _ _ _ h => h
        case hyx7 =>
          refine Or.inl ⟨by rfl, ?_⟩
          intro wS hSw
          refine Eq.trans (exec_load_mid 32 (.tmp 27) ?_ b (j * 5) ?_ [.int .i64 es[j].k.t, .int .i64 es[j].k.c, .int .i64 es[j].k.e] _ (HRK.out wS hSw).2.1 Try.underlying32 rfl Try.infoKey) ?_
          · rfl
          · rfl
          · with_reducible rfl
        try simp only [Act.put, List.setIfInBounds_toArray, List.set_cons_zero, List.set_cons_succ]
        refine wpAnyH_take (i := 8) (oi := ?oix8) (v := ?vx8) ?hix8 (by kernel_rfl) (by kernel_rfl) (by kernel_rfl) ?hQx8 ?hyx8 HS ?restx8
        case hix8 => simp only [List.getElem?_toArray, List.getElem?_cons_succ, List.getElem?_cons_zero]; exact rfl
        case hQx8 => exact fun _ _ _ h => h
        case hyx8 =>
          refine Or.inl ⟨by rfl, ?_⟩
          intro wS hSw
          obtain ⟨g0, r0, k0, k1, k2⟩ := HRK.out wS hSw
          go_simp
          try with_reducible rfl
        try simp only [Act.put, List.setIfInBounds_toArray, List.set_cons_zero, List.set_cons_succ]
        refine wpAnyH_take (i := 9) (oi := ?oix9) (v := ?vx9) ?hix9 (by kernel_rfl) (by kernel_rfl) (by kernel_rfl) ?hQx9 ?hyx9 HS ?restx9
        case hix9 => simp only [List.getElem?_toArray, List.getElem?_cons_succ, List.getElem?_cons_zero]; exact rfl
        case hQx9 => exact fun _ _ _ h => h
        case hyx9 =>
          refine Or.inl ⟨by rfl, ?_⟩
          intro wS hSw
          go_simp
          try with_reducible rfl
        try simp only [Act.put, List.setIfInBounds_toArray, List.set_cons_zero, List.set_cons_succ]
        refine wpAnyH_done (by kernel_rfl) ?_ _
        clear HS
        go_wp2_with fail
        refine wp_region_held_drew (S := fun wx => wx.heap[g]? = wr.heap[g]? ∧ wx.heap[w.heap.size]? = wr.heap[w.heap.size]?) (by kernel_rfl) ⟨rfl, rfl⟩ (fun HS => ?_)
        refine wpAnyH_take (i := 0) (oi := ?oiy0) (v := ?vy0) ?hiy0 (by kernel_rfl) (by kernel_rfl) (by kernel_rfl) ?hQy0 ?hyy0 HS ?resty0
        case hiy0 => simp only [List.getElem?_toArray, List.getElem?_cons_zero]; exact rfl
        case hQy0 => exact fun _ _ _ h => h
        case hyy0 =>
          refine Or.inl ⟨by rfl, ?_⟩
          intro wS hSw
          go_simp
          try with_reducible rfl
        try simp only [Act.put, List.setIfInBounds_toArray, List.set_cons_zero, List.set_cons_succ]
        refine wpAnyH_take (i := 1) (oi := ?oiy1) (v := ?vy1) ?hiy1 (by kernel_rfl) (by kernel_rfl) (by kernel_rfl) ?hQy1 ?hyy1 HS ?resty1
        case hiy1 => simp only [List.getElem?_toArray, List.getElem?_cons_succ, List.getElem?_cons_zero]; exact rfl
        case hQy1 => exact fun _ _ _ h => h
        case hyy1 =>
          refine Or.inl ⟨by rfl, ?_⟩
          intro wS hSw
          go_simp
          try with_reducible rfl
        try simp only [Act.put, List.setIfInBounds_toArray, List.set_cons_zero, List.set_cons_succ]
        refine wpAnyH_take (i := 2) (oi := ?oiy2) (v := ?vy2) ?hiy2 (by kernel_rfl) (by kernel_rfl) (by kernel_rfl) ?hQy2 ?hyy2 HS ?resty2
        case hiy2 => simp only [List.getElem?_toArray, List.getElem?_cons_succ, List.getElem?_cons_zero]; exact rfl
        case hQy2 => exact fun _ _ _ h => h
        case hyy2 =>
          refine Or.inl ⟨by rfl, ?_⟩
          intro wS hSw
          go_simp
          try with_reducible rfl
        try simp only [Act.put, List.setIfInBounds_toArray, List.set_cons_zero, List.set_cons_succ]
        refine wpAnyH_take (i := 3) (oi := ?oiy3) (v := ?vy3) ?hiy3 (by kernel_rfl) (by kernel_rfl) (by kernel_rfl) ?hQy3 ?hyy3 HS ?resty3
        case hiy3 => simp only [List.getElem?_toArray, List.getElem?_cons_succ, List.getElem?_cons_zero]; exact rfl
        case hQy3 => exact fun _ _ _ h => h
        case hyy3 =>
          refine Or.inl ⟨by rfl, ?_⟩
          intro wS hSw
          have g0 := hI.out.cell
          rw [← World.cell?_of_block (a := ⟨g, 0, none⟩) hSw.1] at g0
          go_simp
          try with_reducible rfl
        try simp only [Act.put, List.setIfInBounds_toArray, List.set_cons_zero, List.set_cons_succ]
        refine wpAnyH_take (i := 4) (oi := ?oiy4) (v := ?vy4) ?hiy4 (by kernel_rfl) (by kernel_rfl) (by kernel_rfl) ?hQy4 ?hyy4 HS ?resty4
        case hiy4 => simp only [List.getElem?_toArray, List.getElem?_cons_succ, List.getElem?_cons_zero]; exact rfl
        case hQy4 => exact fun _ _ _ h => h
        case hyy4 =>
          refine Or.inl ⟨by rfl, ?_⟩
          intro wS hSw
          go_simp
          try with_reducible rfl
        try simp only [Act.put, List.setIfInBounds_toArray, List.set_cons_zero, List.set_cons_succ]
        refine wpAnyH_take (i := 5) (oi := ?oiy5) (v := ?vy5) ?hiy5 (by kernel_rfl) (by kernel_rfl) (by kernel_rfl) ?hQy5 ?hyy5 HS ?resty5
        case hiy5 => simp only [List.getElem?_toArray, List.getElem?_cons_succ, List.getElem?_cons_zero]; exact rfl
        case hQy5 => exact fun _ _ _ h => h
        case hyy5 =>
          refine Or.inl ⟨by rfl, ?_⟩
          intro wS hSw
          have hKS := hI.out.key.keep hSw.2
          have c0 := hKS.cell 0
          have c1 := hKS.cell 1
          have c2 := hKS.cell 2
          simp only [List.getElem?_toArray, List.getElem?_cons_zero, List.getElem?_cons_succ] at c0 c1 c2
          go_simp
          try with_reducible rfl
        try simp only [Act.put, List.setIfInBounds_toArray, List.set_cons_zero, List.set_cons_succ]
        refine wpAnyH_take (i := 6) (oi := ?oiy6) (v := ?vy6) ?hiy6 (by kernel_rfl) (by kernel_rfl) (by kernel_rfl) ?hQy6 ?hyy6 HS ?resty6
        case hiy6 => simp only [List.getElem?_toArray, List.getElem?_cons_succ, List.getElem?_cons_zero]; exact rfl
        case hQy6 => exact fun _ _ _ h => h
        case hyy6 =>
          refine Or.inl ⟨by rfl, ?_⟩
          intro wS hSw
          refine Eq.trans (exec_build 65 #[(0, .tmp 36)] ?_ #[(0, (.agg #[.int .i64 (k).t, .int .i64 (k).c, .int .i64 (k).e]))] ?_ _ (built_nil k)) ?_
          · rfl
          · simp only [List.map_toArray, List.map_cons, List.map_nil]; rfl
          · with_reducible rfl
        try simp only [Act.put, List.setIfInBounds_toArray, List.set_cons_zero, List.set_cons_succ]
        refine wpAnyH_take (i := 7) (oi := ?oiy7) (v := ?vy7) ?hiy7 (by kernel_rfl) (by kernel_rfl) (by kernel_rfl) ?hQy7 ?hyy7 HS ?resty7
        case hiy7 => simp only [List.getElem?_toArray, List.getElem?_cons_succ, List.getElem?_cons_zero]; exact rfl
        case hQy7 => exact fun _ _ _ h => h
        case hyy7 =>
          refine Or.inl ⟨by rfl, ?_⟩
          intro wS hSw
          go_simp
          try with_reducible rfl
        try simp only [Act.put, List.setIfInBounds_toArray, List.set_cons_zero, List.set_cons_succ]
        refine wpAnyH_ready (rs := [8]) (by kernel_rfl) (by simp) ?_
        refine AllReadyH.cons (o := ?oy8) ?hoy8 (fun K hK => ?stepy8) AllReadyH.nil
        case hoy8 => simp only [List.getElem?_toArray, List.getElem?_cons_succ, List.getElem?_cons_zero]; exact rfl
        rw [if_pos (by rfl)]
        refine wp_store_mid 65 _ _ rfl b (j * 5) (nilE k).cells.toArray rfl rfl (hI.out.there HLT.out) Try.infoSe1 (all_oneCell_toArray (ep_cell _)) ?_
        have HG2 : Hid ((wr.drew.drew.setCells b (j * 5) (nilE k).cells).heap[g]? = wr.heap[g]?) := hid ((grown_setCells b (nilE k).cells (j * 5) wr.drew.drew).block g (hI.out.at_.F g hI.out.at_.Fg) (fun e => (hI.out.at_.Ag b rfl).1 (by injection e with e; exact e.symm)))
        have HK2 : Hid ((wr.drew.drew.setCells b (j * 5) (nilE k).cells).heap[w.heap.size]? = wr.heap[w.heap.size]?) := hid ((grown_setCells b (nilE k).cells (j * 5) wr.drew.drew).block w.heap.size hI.out.key.lt (fun e => HNF.out (by injection e with e; rw [e]; exact (hI.out.at_.Ag b rfl).2.2)))
        have HD : Hid (Dst w (wr.drew.drew.setCells b (j * 5) (nilE k).cells) F g (s.G ++ [k]) m (some ⟨b, 0, none⟩) c es w.heap.size k (j + 1)) := hid ((hI.out.bel ((Below.refl _ _).drew.drew)).wipe HLT.out HE.out HNF.out)
        refine hK.out _ _ ⟨HG2.out, HK2.out⟩ (fun HS => ?_)
        clear hK K
        try simp only [Act.put]
        refine wpAnyH_done (by kernel_rfl) ?_ _
        clear HS HG2 HK2 hI
        go_wp2
        go_roundg (es.length - (j + 1))
        case measure => have := hgk.out; have := HLT.out; omega
        case rel => exact ⟨j + 1, congrArg (Value.int .i64) (by first | exact wj | omega | rfl), hid rfl, hid (by have := HLT.out; omega), HD⟩
      · have HD : Hid (Dst w wr.drew F g (s.G ++ [k]) m (some ⟨b, 0, none⟩) c es w.heap.size k (j + 1)) := hid ((hI.out.bel (Below.refl _ _).drew).keep hlt he)
        rw [decide_eq_false he] at heq
        clear hR hbl he hlt
        as_aux_lemma =>
        go_wp2_with fail
        refine wp_region_held_drew (S := fun wx => Below wr.heap.size wr wx) (by kernel_rfl) (Below.refl _ _).drew (fun HS => ?_)
        refine wpAnyH_take (i := 0) (oi := ?oiz0) (v := ?vz0) ?hiz0 (by kernel_rfl) (by kernel_rfl) (by kernel_rfl) ?hQz0 ?hyz0 HS ?restz0
        case hiz0 => simp only [List.getElem?_toArray, List.getElem?_cons_zero]; exact rfl
        case hQz0 => exact fun _ _ _ h => h
        case hyz0 =>
          refine Or.inl ⟨by rfl, ?_⟩
          intro wS hSw
          go_simp
          try with_reducible rfl
        try simp only [Act.put, List.setIfInBounds_toArray, List.set_cons_zero, List.set_cons_succ]
        refine wpAnyH_take (i := 1) (oi := ?oiz1) (v := ?vz1) ?hiz1 (by kernel_rfl) (by kernel_rfl) (by kernel_rfl) ?hQz1 ?hyz1 HS ?restz1
        case hiz1 => simp only [List.getElem?_toArray, List.getElem?_cons_succ, List.getElem?_cons_zero]; exact rfl
        case hQz1 => exact fun _ _ _ h => h
        case hyz1 =>
          refine Or.inl ⟨by rfl, ?_⟩
          intro wS hSw
          go_simp
          try with_reducible rfl
        try simp only [Act.put, List.setIfInBounds_toArray, List.set_cons_zero, List.set_cons_succ]
        refine wpAnyH_take (i := 2) (oi := ?oiz2) (v := ?vz2) ?hiz2 (by kernel_rfl) (by kernel_rfl) (by kernel_rfl) ?hQz2 ?hyz2 HS ?restz2
        case hiz2 => simp only [List.getElem?_toArray, List.getElem?_cons_succ, List.getElem?_cons_zero]; exact rfl
        case hQz2 => exact fun _ _ _ h => h
        case hyz2 =>
          refine Or.inl ⟨by rfl, ?_⟩
          intro wS hSw
          go_simp
          try with_reducible rfl
        try simp only [Act.put, List.setIfInBounds_toArray, List.set_cons_zero, List.set_cons_succ]
        refine wpAnyH_take (i := 3) (oi := ?oiz3) (v := ?vz3) ?hiz3 (by kernel_rfl) (by kernel_rfl) (by kernel_rfl) ?hQz3 ?hyz3 HS ?restz3
        case hiz3 => simp only [List.getElem?_toArray, List.getElem?_cons_succ, List.getElem?_cons_zero]; exact rfl
        case hQz3 => exact fun _ _ _ h => h
        case hyz3 =>
          refine Or.inl ⟨by rfl, ?_⟩
          intro wS hSw
          obtain ⟨g0, r0, k0, k1, k2⟩ := HRK.out wS hSw
          go_simp
          try with_reducible rfl
        try simp only [Act.put, List.setIfInBounds_toArray, List.set_cons_zero, List.set_cons_succ]
        refine wpAnyH_take (i := 4) (oi := ?oiz4) (v := ?vz4) ?hiz4 (by kernel_rfl) (by kernel_rfl) (by kernel_rfl) ?hQz4 ?hyz4 HS ?restz4
        case hiz4 => simp only [List.getElem?_toArray, List.getElem?_cons_succ, List.getElem?_cons_zero]; exact rfl
        case hQz4 => exact fun _ _ _ h => h
        case hyz4 =>
          refine Or.inl ⟨by rfl, ?_⟩
          intro wS hSw
          go_simp
          try with_reducible rfl
        try simp only [Act.put, List.setIfInBounds_toArray, List.set_cons_zero, List.set_cons_succ]
        refine wpAnyH_take (i := 5) (oi := ?oiz5) (v := ?vz5) ?hiz5 (by kernel_rfl) (by kernel_rfl) (by kernel_rfl) ?hQz5 ?hyz5 HS ?restz5
        case hiz5 => simp only [List.getElem?_toArray, List.getElem?_cons_succ, List.getElem?_cons_zero]; exact rfl
        case hQz5 => exact fun _ _ _ h => h
        case hyz5 =>
          refine Or.inl ⟨by rfl, ?_⟩
          intro wS hSw
          go_simp
          try with_reducible rfl
        try simp only [Act.put, List.setIfInBounds_toArray, List.set_cons_zero, List.set_cons_succ]
        refine wpAnyH_take (i := 6) (oi := ?oiz6) (v := ?vz6) ?hiz6 (by kernel_rfl) (by kernel_rfl) (by kernel_rfl) ?hQz6 ?hyz6 HS ?restz6
        case hiz6 => simp only [List.getElem?_toArray, List.getElem?_cons_succ, List.getElem?_cons_zero]; exact rfl
        case hQz6 => exact fun _ _ _ h => h
        case hyz6 =>
          refine Or.inl ⟨by rfl, ?_⟩
          intro wS hSw
          go_simp
          try with_reducible rfl
        try simp only [Act.put, List.setIfInBounds_toArray, List.set_cons_zero, List.set_cons_succ]
        refine wpAnyH_take (i := 7) (oi := ?oiz7) (v := ?vz7) ?hiz7 (by kernel_rfl) (by kernel_rfl) (by kernel_rfl) ?hQz7 ?hyz7 HS ?restz7
        case hiz7 => simp only [List.getElem?_toArray, List.getElem?_cons_succ, List.getElem?_cons_zero]; exact rfl
        case hQz7 => exact fun _ _ _ h => h
        case hyz7 =>
          refine Or.inl ⟨by rfl, ?_⟩
          intro wS hSw
          refine Eq.trans (exec_load_mid 32 (.tmp 27) ?_ b (j * 5) ?_ [.int .i64 es[j].k.t, .int .i64 es[j].k.c, .int .i64 es[j].k.e] _ (HRK.out wS hSw).2.1 Try.underlying32 rfl Try.infoKey) ?_
          · rfl
          · rfl
          · with_reducible rfl
        try simp only [Act.put, List.setIfInBounds_toArray, List.set_cons_zero, List.set_cons_succ]
        refine wpAnyH_take (i := 8) (oi := ?oiz8) (v := ?vz8) ?hiz8 (by kernel_rfl) (by kernel_rfl) (by kernel_rfl) ?hQz8 ?hyz8 HS ?restz8
        case hiz8 => simp only [List.getElem?_toArray, List.getElem?_cons_succ, List.getElem?_cons_zero]; exact rfl
        case hQz8 => exact fun _ _ _ h => h
        case hyz8 =>
          refine Or.inl ⟨by rfl, ?_⟩
          intro wS hSw
          obtain ⟨g0, r0, k0, k1, k2⟩ := HRK.out wS hSw
          go_simp
          try with_reducible rfl
        try simp only [Act.put, List.setIfInBounds_toArray, List.set_cons_zero, List.set_cons_succ]
        refine wpAnyH_take (i := 9) (oi := ?oiz9) (v := ?vz9) ?hiz9 (by kernel_rfl) (by kernel_rfl) (by kernel_rfl) ?hQz9 ?hyz9 HS ?restz9
        case hiz9 => simp only [List.getElem?_toArray, List.getElem?_cons_succ, List.getElem?_cons_zero]; exact rfl
        case hQz9 => exact fun _ _ _ h => h
        case hyz9 =>
          refine Or.inl ⟨by rfl, ?_⟩
          intro wS hSw
          go_simp
          try with_reducible rfl
        try simp only [Act.put, List.setIfInBounds_toArray, List.set_cons_zero, List.set_cons_succ]
        refine wpAnyH_done (by kernel_rfl) ?_ _
        clear HS
        go_wp2
        go_roundg (es.length - (j + 1))
        case measure => have := hgk.out; have := HLT.out; omega
        case rel => exact ⟨j + 1, congrArg (Value.int .i64) (by first | exact wj | omega | rfl), hid rfl, hid (by have := HLT.out; omega), HD⟩
    · obtain rfl : j = es.length := by have := hj.out; omega
      have HL5 := hid (hI.out.left HSL.out rfl)
      as_aux_lemma =>
      clear hI
      go_wp2
      go_end0
      exact ⟨rfl, HL5.out⟩
end Go.Proofs.Ytaailoodhaibiaa
