/- What Write of a device does: a write more that isn't kept, or an error. -/
import Derived.Test.YtocmgdhgimpfhaaDvRead
import Derived.Great.BuildSlice
namespace Go.Proofs.Ytocmgdhgimpfhaa
open Go.RowKit

theorem list16 {L : List Value} (h : L.length = 16) : ∃ x0 x1 x2 x3 x4 x5 x6 x7 x8 x9 x10 x11 x12 x13 x14 x15, L = [x0, x1, x2, x3, x4, x5, x6, x7, x8, x9, x10, x11, x12, x13, x14, x15] := by
  match L, h with
  | [x0, x1, x2, x3, x4, x5, x6, x7, x8, x9, x10, x11, x12, x13, x14, x15], _ => exact ⟨x0, x1, x2, x3, x4, x5, x6, x7, x8, x9, x10, x11, x12, x13, x14, x15, rfl⟩
theorem Try.infoW : (Try.prog.info? 96).map (fun i => (i.zero, i.size, i.bytes)) = some (some (.agg #[.int .i64 0, .int .u8 0, .int .u8 0, .int .u8 0, .int .u8 0, .int .u8 0, .int .u8 0, .int .u8 0, .int .u8 0, .int .u8 0, .int .u8 0, .int .u8 0, .int .u8 0, .int .u8 0, .int .u8 0, .int .u8 0, .int .u8 0]), 17, 24) := by kernel_rfl
theorem Try.infoW1 : (Try.prog.info? 96).map (·.size) = some 17 := by kernel_rfl
theorem Try.undW : (Try.prog.underlying 96).map TypeDesc.isRow = some true := by kernel_rfl
theorem built_write (i : Int) (L : List Value) (hL : L.length = 16) : Try.prog.built 96 [(0, .int .i64 i), (1, .agg L.toArray)] = some (.int .i64 i :: L).toArray := by
  obtain ⟨x0, x1, x2, x3, x4, x5, x6, x7, x8, x9, x10, x11, x12, x13, x14, x15, rfl⟩ := list16 hL
  kernel_rfl
theorem filled_write (i : Int) (L : List Value) (hL : L.length = 16) : Instr.fill (fun j => some (j * 17, 17)) ((Array.range (1 * 17)).map ((#[.int .i64 0, .int .u8 0, .int .u8 0, .int .u8 0, .int .u8 0, .int .u8 0, .int .u8 0, .int .u8 0, .int .u8 0, .int .u8 0, .int .u8 0, .int .u8 0, .int .u8 0, .int .u8 0, .int .u8 0, .int .u8 0, .int .u8 0] : Array Value)[· % 17]!)) [(0, .agg (.int .i64 i :: L).toArray)] = some (.int .i64 i :: L).toArray := by
  obtain ⟨x0, x1, x2, x3, x4, x5, x6, x7, x8, x9, x10, x11, x12, x13, x14, x15, rfl⟩ := list16 hL
  kernel_rfl
theorem wp_append_w {op : Oper} {a : Act} {w : World} {K : Act → World → Prop} {Q : Exit → Act → World → Prop} (s x : Operand) (ho : op.op = .call { callee := .builtin .append, args := #[s, x], argTypes := #[75, 75] })
    (A : Option Addr) (n c : Nat) (xs : List Value) (hs : a.eval s = .slice A n c) (hown : w.ownsRow 0 96 17 (.slice A n c) n xs) (b : Nat) (hx : a.eval x = .slice (some ⟨b, 0, none⟩) 1 1)
    (news : List Value) (hl : news.length = 17) (hr : w.rangeAt b 0 news) (h1 : ∀ u ∈ news, u.oneCell' = true) (hn : n ≤ 1000000)
    (h : ∀ A' c' w', w'.ownsRow 0 96 17 (.slice A' (n + 1) c') (n + 1) (xs ++ news) → w.grownBy w' (A.map (·.block)) → (∀ d, A'.map (·.block) = some d → A.map (·.block) = some d ∨ d = w.heap.size) → K (a.put op.dst (.slice A' (n + 1) c')) w') : op.wp Try.prog a w K Q := by
  obtain ⟨i, hi, hz0, hz1, hz2⟩ := info_parts Try.infoW
  obtain ⟨v', w', hrun, h2, h3, _, h5⟩ := run_append_own_at (P := Try.prog) w 0 75 op.type 96 i _ 17 24 Try.underlying75 hi hz0 hz1 hz2 rfl (by decide) _ n xs hown ⟨b, 0, none⟩ 1 1 news hl (fun j u hu => by rw [add_plain]; exact hr j u hu) h1 (by unfold maxLen; omega) (by omega) (Nat.zero_le _)
  have hv : (Value.slice A n c).ownBlock = A.map (·.block) := by cases A <;> rfl
  obtain ⟨A', c', rfl⟩ : ∃ A' c', v' = .slice A' (n + 1) c' := by
    rcases h2.2 with ⟨_, h0⟩ | ⟨g, cap, cur, hv', _⟩
    · omega
    · exact ⟨_, _, hv'⟩
  have hv2 : (Value.slice A' (n + 1) c').ownBlock = A'.map (·.block) := by cases A' <;> rfl
  unfold Oper.wp execOp
  simp only [ho, resolve, invoke, builtin, Sem.run_bind, Sem.run_pure, Result.andThen_ok, List.map_toArray, List.map_cons, List.map_nil, hs, hx, hrun]
  rw [hv] at h3 h5
  rw [hv2] at h5
  exact h A' c' w' h2 h3 fun d hd => by
    rcases h5 with h5 | h5
    · exact .inl (h5 ▸ hd)
    · rw [h5] at hd; injection hd with hd; exact .inr hd.symm

set_option maxRecDepth 100000 in
theorem write_nil (w : World) (i : Int) (A : Option Addr) (n c : Nat) :
    Calls Try.prog 21 #[.pointer none, .int .i64 i, .slice A n c] w fun e w' => e = .returned (.int .i64 1) ∧ w = w' := by
  go_enter Try.func21, Try.ntmps21
  go_wp2_with fail
  refine (wrong_nil w i _ _ _).mono ?_
  rintro e w' ⟨rfl, rfl⟩
  go_wp2
  go_ret
  exact ⟨rfl, rfl⟩
set_option maxRecDepth 100000 in
theorem write_bad (w : World) (F : Nat → Prop) (g : Nat) (s : St) (h : Dev w F g s) (i : Int) (A : Option Addr) (n c : Nat) (hb : bad s i n) :
    Calls Try.prog 21 #[.pointer (some ⟨g, 0, none⟩), .int .i64 i, .slice A n c] w fun e w' => e = .returned (.int .i64 2) ∧ w = w' := by
  have hw := wrong_bad w F g s h i A n c hb
  clear h hb
  go_enter Try.func21, Try.ntmps21
  go_wp2_with fail
  refine hw.mono ?_
  rintro e w' ⟨rfl, rfl⟩
  go_wp2
  go_ret
  exact ⟨rfl, rfl⟩
set_option maxRecDepth 100000 in
theorem write_off (w : World) (F : Nat → Prop) (g : Nat) (s : St) (h : Dev w F g s) (i : Int) (A : Option Addr) (n c : Nat) (hb : ¬ bad s i n) (ho : s.lim = some 0) :
    Calls Try.prog 21 #[.pointer (some ⟨g, 0, none⟩), .int .i64 i, .slice A n c] w fun e w' => e = .returned (.int .i64 40) ∧ w = w' := by
  have hw := wrong_ok w F g s h i A n c hb
  have hc := count_off w F g s h ho
  clear h hb
  go_enter Try.func21, Try.ntmps21
  go_wp2_with fail
  refine hw.mono ?_
  rintro e w' ⟨rfl, rfl⟩
  go_wp2_with fail
  refine hc.mono ?_
  rintro e w' ⟨rfl, rfl⟩
  go_wp2
  go_ret
  exact ⟨rfl, rfl⟩

/-- Behind the new bytes' store: what was seen is laid anew, the rest is as it was. -/
structure Mid (w0 w : World) (F : Nat → Prop) (g : Nat) (s : St) (k q : Nat) (A : Option Addr) (c i : Nat) (b : List UInt8) : Prop where
  blk : Blk w g 77 #[.slice (some ⟨k, 0, none⟩) s.n s.n, .slice (some ⟨q, 0, none⟩) s.n s.n, .slice A s.W.length c, .bool s.lim.isSome, .int .i64 ((s.lim.getD 0 : Nat) : Int)]
  kept : Rows w k s.n s.K
  seen : Rows w q s.n (upd (app s.W s.K) i b)
  wait : w.ownsRow 0 96 17 (.slice A s.W.length c) s.W.length (wcs s.W)
  kp : Kp F w0 w
theorem Mid.of {w0 w1 : World} {F : Nat → Prop} {g : Nat} {s : St} {k q c : Nat} {A : Option Addr} (h : DevAt w0 F g s k q A c) (hb : Below w0.heap.size w0 w1) {i : Nat} (hi : i < s.n) {b : List UInt8} (hl : b.length = 16) : Mid w0 (w1.setCells q (i * 16) (bs b)) F g s k q A c i b := by
  have hk : ∀ j, F j → w1.heap[j]? = w0.heap[j]? := fun j hj => hb.block j (h.F j hj)
  have hg := grown_setCells q (bs b) (i * 16) w1
  have lt : ∀ j, F j → j < w1.heap.size := fun j hj => Nat.lt_of_lt_of_le (h.F j hj) hb.size
  exact ⟨(h.blk.keep (hk g h.Fg)).keep (hg.block g (lt g h.Fg) (by simpa using h.gq)), (h.kept.keep hb.size (hk k h.Fk)).other h.kq _ _, (h.seen.keep hb.size (hk q h.Fq)).put h.ok.S hi hl,
    own_keep (own_keep h.wait fun b hb => hk b (h.Ag b hb).2.2.2) (fun b hb => hg.block b (lt b (h.Ag b hb).2.2.2) (by simpa using (h.Ag b hb).2.2.1)), (Kp.ofBelow hb).trans (Kp.setCells w1 q _ _ h.Fq)⟩
theorem Mid.alloc {w0 w : World} {F : Nat → Prop} {g : Nat} {s : St} {k q c i : Nat} {A : Option Addr} {b : List UInt8} (h : Mid w0 w F g s k q A c i b) {w' : World} (hb : Below w.heap.size w w') : Mid w0 w' F g s k q A c i b :=
  ⟨h.blk.keep (hb.block g h.blk.lt), h.kept.keep hb.size (hb.block k h.kept.lt), h.seen.keep hb.size (hb.block q h.seen.lt), own_keep h.wait fun b hA => hb.block b (own_lt h.wait b hA), h.kp.trans (Kp.ofBelow hb)⟩
theorem Mid.left {w0 w2 w4 : World} {F : Nat → Prop} {g : Nat} {s : St} {k q c : Nat} {A : Option Addr} (h : DevAt w0 F g s k q A c) {i : Nat} (hi : i < s.n) {l : List UInt8} (hl : l.length ≤ 16) (m : Mid w0 w2 F g s k q A c i (pad l)) {A' : Option Addr} {c' : Nat}
    (ho : w4.ownsRow 0 96 17 (.slice A' (s.W.length + 1) c') (s.W.length + 1) (wcs s.W ++ (.int .i64 (i : Int) :: bs (pad l)))) (hg : w2.grownBy w4 (A.map (·.block))) (hA : ∀ d, A'.map (·.block) = some d → A.map (·.block) = some d ∨ d = w2.heap.size) :
    Left w0 (w4.setCell ⟨g, 2, none⟩ (.slice A' (s.W.length + 1) c')) F g (s.put i l) := by
  have hg2 := grown_setCell w4 g 2 (.slice A' (s.W.length + 1) c')
  have gs : w2.heap.size ≤ w4.heap.size := hg.size
  have ws := m.kp.size
  have gsz := hg2.size
  have nA : ∀ j, F j → j ≠ w2.heap.size → (∀ d, A.map (·.block) = some d → d ≠ j) → w4.heap[j]? = w2.heap[j]? := fun j hj _ hd => hg.block j (Nat.lt_of_lt_of_le (h.F j hj) ws) (fun e => hd j e.symm rfl)
  have lt0 : ∀ j, F j → j < w2.heap.size := fun j hj => Nat.lt_of_lt_of_le (h.F j hj) ws
  have eg : w4.heap[g]? = w2.heap[g]? := nA g h.Fg (by have := lt0 g h.Fg; omega) fun d hd => (h.Ag d hd).1
  have ek : w4.heap[k]? = w2.heap[k]? := nA k h.Fk (by have := lt0 k h.Fk; omega) fun d hd => (h.Ag d hd).2.1
  have eq' : w4.heap[q]? = w2.heap[q]? := nA q h.Fq (by have := lt0 q h.Fq; omega) fun d hd => (h.Ag d hd).2.2.1
  have lg := lt0 g h.Fg
  have lk := lt0 k h.Fk
  have lq := lt0 q h.Fq
  have A1 : ∀ d, A'.map (·.block) = some d → d ≠ g ∧ d ≠ k ∧ d ≠ q ∧ (F d ∨ d = w2.heap.size) := fun d hd => by
    rcases hA d hd with e | e
    · have := h.Ag d e
      exact ⟨this.1, this.2.1, this.2.2.1, .inl this.2.2.2⟩
    · subst e
      exact ⟨by omega, by omega, by omega, .inr rfl⟩
  refine ⟨fun j => (F j ∨ j = w2.heap.size) ∧ j < w4.heap.size, ⟨k, q, A', c', ?_, ?_, ?_, ?_, h.gk, h.gq, h.kq, fun d hd => ?_, ⟨.inl h.Fg, by omega⟩, ⟨.inl h.Fk, by omega⟩, ⟨.inl h.Fq, by omega⟩, fun j hj => Nat.lt_of_lt_of_le hj.2 hg2.size, ?_⟩, ?_, fun j hj => ?_⟩
  · have := (m.blk.keep eg).store 2 (.slice A' (s.W.length + 1) c')
    show Blk _ g _ #[_, _, .slice A' (s.W ++ [(i, pad l)]).length c', _, _]
    rw [List.length_append]
    exact this
  · exact (m.kept.keep gs ek).keep hg2.size (hg2.block k (by omega) (by simpa using Ne.symm h.gk))
  · have := (m.seen.keep gs eq').keep hg2.size (hg2.block q (by omega) (by simpa using Ne.symm h.gq))
    exact this.same fun j _ => congrFun (app_snoc _ _ _ _) j
  · have := own_keep ho (w' := w4.setCell ⟨g, 2, none⟩ (.slice A' (s.W.length + 1) c')) fun b hb => hg2.block b (own_lt ho b hb) (by simpa using (A1 b hb).1)
    show World.ownsRow _ 0 _ 17 (.slice A' (s.W ++ [(i, pad l)]).length c') (s.W ++ [(i, pad l)]).length (wcs (s.W ++ [(i, pad l)]))
    rw [List.length_append, wcs_app, wcs_one]
    exact this
  · have := A1 d hd
    exact ⟨this.1, this.2.1, this.2.2.1, this.2.2.2, own_lt ho d hd⟩
  · exact h.ok.put hi hl
  · exact (m.kp.step (G := fun j => A.map (·.block) = some j) ⟨hg.os, hg.tape, hg.output, hg.size, fun j hj hne => hg.block j hj (fun e => hne e.symm)⟩ (fun j hj => .inl (h.Ag j hj).2.2.2)).trans (Kp.setCell w4 g 2 _ h.Fg)
  · rcases hj.1 with e | e
    · exact .inl e
    · exact .inr (by omega)

theorem Left.after {w w1 w2 : World} {F F1 : Nat → Prop} {g : Nat} {s : St} (hk : Kp F w w1) (hF : ∀ j, F1 j → F j ∨ w.heap.size ≤ j) (h : Left w1 w2 F1 g s) : Left w w2 F g s := by
  obtain ⟨F2, hd, hk2, hF2⟩ := h
  exact ⟨F2, hd, hk.step hk2 hF, fun j hj => by
    rcases hF2 j hj with e | e
    · exact hF j e
    · exact .inr (Nat.le_trans hk.size e)⟩

set_option maxRecDepth 100000 in
set_option maxHeartbeats 4000000 in
theorem write_c (w : World) (F : Nat → Prop) (g : Nat) (s : St) (h : Dev w F g s) (i : Nat) (hi : i < s.n) (A : Option Addr) (n c : Nat) (l : List UInt8) (hr : Bts w 0 w.heap.size A n l) (hA : 0 < n → ∀ u, A.map (·.block) = some u → ¬ F u) (hn : n ≤ 16) (ho : s.lim ≠ some 0) (hW : s.W.length ≤ 1000000) :
    Calls Try.prog 21 #[.pointer (some ⟨g, 0, none⟩), .int .i64 (i : Int), .slice A n c] w fun e w' => e = .returned (.int .i64 0) ∧ Left w w' F g (s.put i l).dec := by
  have hw := wrong_ok w F g s h i A n c (by unfold bad; omega)
  have hc := count_on w F g s h ho
  have HI : Hid (i < s.dec.n) := hid hi
  have HR := hid (fun wx (hk : Kp F w wx) => hr.kp hk hA)
  have HN := hid hn
  have HL := hid hr.len
  have HWl : Hid (s.dec.W.length ≤ 1000000) := hid hW
  have HE : Hid ((s.put i l).dec = s.dec.put i l) := hid rfl
  rw [HE.out]
  generalize s.dec = s1 at *
  clear h hi hr hA hn ho hW HE
  go_enter Try.func21, Try.ntmps21
  go_wp2_with fail
  refine hw.mono ?_
  rintro e w' ⟨rfl, rfl⟩
  go_wp2_with fail
  refine hc.mono ?_
  rintro e w1 ⟨rfl, F1, hd1, hk1, hF1⟩
  have HBt := hid (HR.out w1 hk1)
  have HK1 := hid hk1
  have HF1 := hid hF1
  clear hw hc hk1 hF1 HR
  obtain ⟨k, q, A1, c1, hd⟩ := hd1
  obtain ⟨-, x1, x2, -⟩ := hd.cells
  have HD := hid hd
  have i1 : (0 : Int) ≤ (i : Int) := by omega
  have i2 : (i : Int) < (s1.n : Int) := by have := HI.out; omega
  have HP : Hid ((bs (pad l)).length = 16) := hid (by rw [bs_len, pad_len l (by rw [HL.out]; exact HN.out)])
  have HIN : Hid ((Try.prog.info? 94).map (·.size) = some (bs (pad l)).length) := hid (by rw [HP.out]; exact Try.infoB)
  clear hd
  go_wp2_with fail
  refine wp_region_held_drew (S := fun wx => wx.cell? ⟨g, 1, none⟩ = some (.slice (some ⟨q, 0, none⟩) s1.n s1.n)) (by kernel_rfl) (by simpa using x1) (fun HS => ?_)
  refine wpAnyH_take (i := 0) (oi := ?oi0) (v := ?v0) ?hi0 (by kernel_rfl) (by kernel_rfl) (by kernel_rfl) ?hQ0 ?hy0 HS ?rest0
  case hi0 => simp only [List.getElem?_toArray, List.getElem?_cons_zero]; exact rfl
  case hQ0 => exact fun _ _ _ h => h
  case hy0 =>
    refine Or.inl ⟨by rfl, ?_⟩
    intro wS hSw
    go_simp
    try with_reducible rfl
  try simp only [Act.put, List.setIfInBounds_toArray, List.set_cons_zero, List.set_cons_succ]
  refine wpAnyH_take (i := 1) (oi := ?oi1) (v := ?v1) ?hi1 (by kernel_rfl) (by kernel_rfl) (by kernel_rfl) ?hQ1 ?hy1 HS ?rest1
  case hi1 => simp only [List.getElem?_toArray, List.getElem?_cons_succ, List.getElem?_cons_zero]; exact rfl
  case hQ1 => exact fun _ _ _ h => h
  case hy1 =>
    refine Or.inl ⟨by rfl, ?_⟩
    intro wS hSw
    go_simp
    try with_reducible rfl
  try simp only [Act.put, List.setIfInBounds_toArray, List.set_cons_zero, List.set_cons_succ]
  refine wpAnyH_take (i := 2) (oi := ?oi2) (v := ?v2) ?hi2 (by kernel_rfl) (by kernel_rfl) (by kernel_rfl) ?hQ2 ?hy2 HS ?rest2
  case hi2 => simp only [List.getElem?_toArray, List.getElem?_cons_succ, List.getElem?_cons_zero]; exact rfl
  case hQ2 => exact fun _ _ _ h => h
  case hy2 =>
    refine Or.inl ⟨by rfl, ?_⟩
    intro wS hSw
    go_simp
    try with_reducible rfl
  try simp only [Act.put, List.setIfInBounds_toArray, List.set_cons_zero, List.set_cons_succ]
  refine wpAnyH_take (i := 3) (oi := ?oi3) (v := ?v3) ?hi3 (by kernel_rfl) (by kernel_rfl) (by kernel_rfl) ?hQ3 ?hy3 HS ?rest3
  case hi3 => simp only [List.getElem?_toArray, List.getElem?_cons_succ, List.getElem?_cons_zero]; exact rfl
  case hQ3 => exact fun _ _ _ h => h
  case hy3 =>
    refine Or.inl ⟨by rfl, ?_⟩
    intro wS hSw
    go_simp
    try with_reducible rfl
  try simp only [Act.put, List.setIfInBounds_toArray, List.set_cons_zero, List.set_cons_succ]
  refine wpAnyH_take (i := 4) (oi := ?oi4) (v := ?v4) ?hi4 (by kernel_rfl) (by kernel_rfl) (by kernel_rfl) ?hQ4 ?hy4 HS ?rest4
  case hi4 => simp only [List.getElem?_toArray, List.getElem?_cons_succ, List.getElem?_cons_zero]; exact rfl
  case hQ4 => exact fun _ _ _ h => h
  case hy4 =>
    refine Or.inl ⟨by rfl, ?_⟩
    intro wS hSw
    go_simp
    try with_reducible rfl
  try simp only [Act.put, List.setIfInBounds_toArray, List.set_cons_zero, List.set_cons_succ]
  refine wpAnyH_take (i := 5) (oi := ?oi5) (v := ?v5) ?hi5 (by kernel_rfl) (by kernel_rfl) (by kernel_rfl) ?hQ5 ?hy5 HS ?rest5
  case hi5 => simp only [List.getElem?_toArray, List.getElem?_cons_succ, List.getElem?_cons_zero]; exact rfl
  case hQ5 => exact fun _ _ _ h => h
  case hy5 =>
    refine Or.inl ⟨by rfl, ?_⟩
    intro wS hSw
    go_simp
    try with_reducible rfl
  try simp only [Act.put, List.setIfInBounds_toArray, List.set_cons_zero, List.set_cons_succ]
  refine wpAnyH_ready (rs := [6]) (by kernel_rfl) (by simp) ?_
  refine AllReadyH.cons (o := ?o6) ?ho6 (fun K hK => ?step6) AllReadyH.nil
  case ho6 => simp only [List.getElem?_toArray, List.getElem?_cons_succ, List.getElem?_cons_zero]; exact rfl
  go_simp
  refine (whole_c A n c l w1.drew (HBt.out.kp (Kp.drew (fun _ => False) w1) (fun _ _ _ => id)) HN.out).mono ?_
  rintro e w2 ⟨rfl, hb2⟩
  have HB2 : Hid (Below w1.heap.size w1 w2) := hid (((Below.refl _ _).drew).trans (hb2.mono (by simp)))
  clear hb2
  refine hK.out _ _ (by have := World.cell?_of_block (a := ⟨g, 1, none⟩) (HB2.out.block g (HD.out.F g HD.out.Fg)); rw [this]; exact x1) (fun HS => ?_)
  clear hK K
  try simp only [Act.put, List.setIfInBounds_toArray, List.set_cons_zero, List.set_cons_succ]
  refine wpAnyH_take (i := 7) (oi := ?oi7) (v := ?v7) ?hi7 (by kernel_rfl) (by kernel_rfl) (by kernel_rfl) ?hQ7 ?hy7 HS ?rest7
  case hi7 => simp only [List.getElem?_toArray, List.getElem?_cons_succ, List.getElem?_cons_zero]; exact rfl
  case hQ7 => exact fun _ _ _ h => h
  case hy7 =>
    refine Or.inl ⟨by rfl, ?_⟩
    intro wS hSw
    go_simp
    try with_reducible rfl
  try simp only [Act.put, List.setIfInBounds_toArray, List.set_cons_zero, List.set_cons_succ]
  refine wpAnyH_ready (rs := [8]) (by kernel_rfl) (by simp) ?_
  refine AllReadyH.cons (o := ?o8) ?ho8 (fun K hK => ?step8) AllReadyH.nil
  case ho8 => simp only [List.getElem?_toArray, List.getElem?_cons_succ, List.getElem?_cons_zero]; exact rfl
  rw [if_pos (by rfl)]
  refine wp_store_mid 94 _ _ rfl q (i * 16) (bs (pad l)).toArray rfl rfl (by rw [List.size_toArray, HP.out]; exact there_part (there_keep HD.out.seen.there (HB2.out.block q HD.out.seen.lt)) HI.out) (by rw [List.size_toArray]; exact HIN.out) (all_oneCell_toArray (bs_one _)) ?_
  refine hK.out _ _ (by have h0 := (Mid.of HD.out HB2.out HI.out (b := pad l) (pad_len l (by rw [HL.out]; exact HN.out))).blk.cell 1; simpa using h0) (fun HS => ?_)
  clear hK K
  try simp only [Act.put]
  refine wpAnyH_done (by kernel_rfl) ?_ _
  have hm : Mid w1 (w2.setCells q (i * 16) (bs (pad l))) F1 g s1 k q A1 c1 i (pad l) := Mid.of HD.out HB2.out HI.out (pad_len l (by rw [HL.out]; exact HN.out))
  clear HS x1 x2 HB2 HBt
  generalize w2.setCells q (i * 16) (bs (pad l)) = w3 at *
  have y1 := hm.blk.cell 1
  have y2 := hm.blk.cell 2
  simp at y1 y2
  have HM := hid hm
  clear hm
  go_wp2_with fail
  refine wp_region_held_drew (S := fun wx => wx.cell? ⟨g, 1, none⟩ = some (.slice (some ⟨q, 0, none⟩) s1.n s1.n) ∧ wx.rangeAt q (i * 16) (bs (pad l))) (by kernel_rfl) ⟨by simpa using y1, by have := HM.out.seen.row i HI.out; rw [upd_same] at this; simpa using this⟩ (fun HS => ?_)
  refine wpAnyH_take (i := 0) (oi := ?oie0) (v := ?ve0) ?hie0 (by kernel_rfl) (by kernel_rfl) (by kernel_rfl) ?hQe0 ?hye0 HS ?reste0
  case hie0 => simp only [List.getElem?_toArray, List.getElem?_cons_zero]; exact rfl
  case hQe0 => exact fun _ _ _ h => h
  case hye0 =>
    refine Or.inl ⟨by rfl, ?_⟩
    intro wS hSw
    go_simp
    try with_reducible rfl
  try simp only [Act.put, List.setIfInBounds_toArray, List.set_cons_zero, List.set_cons_succ]
  refine wpAnyH_take (i := 1) (oi := ?oie1) (v := ?ve1) ?hie1 (by kernel_rfl) (by kernel_rfl) (by kernel_rfl) ?hQe1 ?hye1 HS ?reste1
  case hie1 => simp only [List.getElem?_toArray, List.getElem?_cons_succ, List.getElem?_cons_zero]; exact rfl
  case hQe1 => exact fun _ _ _ h => h
  case hye1 =>
    refine Or.inl ⟨by rfl, ?_⟩
    intro wS hSw
    go_simp
    try with_reducible rfl
  try simp only [Act.put, List.setIfInBounds_toArray, List.set_cons_zero, List.set_cons_succ]
  refine wpAnyH_take (i := 2) (oi := ?oie2) (v := ?ve2) ?hie2 (by kernel_rfl) (by kernel_rfl) (by kernel_rfl) ?hQe2 ?hye2 HS ?reste2
  case hie2 => simp only [List.getElem?_toArray, List.getElem?_cons_succ, List.getElem?_cons_zero]; exact rfl
  case hQe2 => exact fun _ _ _ h => h
  case hye2 =>
    refine Or.inl ⟨by rfl, ?_⟩
    intro wS hSw
    go_simp
    try with_reducible rfl
  try simp only [Act.put, List.setIfInBounds_toArray, List.set_cons_zero, List.set_cons_succ]
  refine wpAnyH_take (i := 3) (oi := ?oie3) (v := ?ve3) ?hie3 (by kernel_rfl) (by kernel_rfl) (by kernel_rfl) ?hQe3 ?hye3 HS ?reste3
  case hie3 => simp only [List.getElem?_toArray, List.getElem?_cons_succ, List.getElem?_cons_zero]; exact rfl
  case hQe3 => exact fun _ _ _ h => h
  case hye3 =>
    refine Or.inl ⟨by rfl, ?_⟩
    intro wS hSw
    go_simp
    try with_reducible rfl
  try simp only [Act.put, List.setIfInBounds_toArray, List.set_cons_zero, List.set_cons_succ]
  refine wpAnyH_take (i := 5) (oi := ?oie5) (v := ?ve5) ?hie5 (by kernel_rfl) (by kernel_rfl) (by kernel_rfl) ?hQe5 ?hye5 HS ?reste5
  case hie5 => simp only [List.getElem?_toArray, List.getElem?_cons_succ, List.getElem?_cons_zero]; exact rfl
  case hQe5 => exact fun _ _ _ h => h
  case hye5 =>
    refine Or.inl ⟨by rfl, ?_⟩
    intro wS hSw
    go_simp
    try with_reducible rfl
  try simp only [Act.put, List.setIfInBounds_toArray, List.set_cons_zero, List.set_cons_succ]
  refine wpAnyH_take (i := 6) (oi := ?oie6) (v := ?ve6) ?hie6 (by kernel_rfl) (by kernel_rfl) (by kernel_rfl) ?hQe6 ?hye6 HS ?reste6
  case hie6 => simp only [List.getElem?_toArray, List.getElem?_cons_succ, List.getElem?_cons_zero]; exact rfl
  case hQe6 => exact fun _ _ _ h => h
  case hye6 =>
    refine Or.inl ⟨by rfl, ?_⟩
    intro wS hSw
    go_simp
    try with_reducible rfl
  try simp only [Act.put, List.setIfInBounds_toArray, List.set_cons_zero, List.set_cons_succ]
  refine wpAnyH_take (i := 7) (oi := ?oie7) (v := ?ve7) ?hie7 (by kernel_rfl) (by kernel_rfl) (by kernel_rfl) ?hQe7 ?hye7 HS ?reste7
  case hie7 => simp only [List.getElem?_toArray, List.getElem?_cons_succ, List.getElem?_cons_zero]; exact rfl
  case hQe7 => exact fun _ _ _ h => h
  case hye7 =>
    refine Or.inl ⟨by rfl, ?_⟩
    intro wS hSw
    go_simp
    try with_reducible rfl
  try simp only [Act.put, List.setIfInBounds_toArray, List.set_cons_zero, List.set_cons_succ]
  refine wpAnyH_take (i := 8) (oi := ?oie8) (v := ?ve8) ?hie8 (by kernel_rfl) (by kernel_rfl) (by kernel_rfl) ?hQe8 ?hye8 HS ?reste8
  case hie8 => simp only [List.getElem?_toArray, List.getElem?_cons_succ, List.getElem?_cons_zero]; exact rfl
  case hQe8 => exact fun _ _ _ h => h
  case hye8 =>
    refine Or.inl ⟨by rfl, ?_⟩
    intro wS hSw
    go_simp
    try with_reducible rfl
  try simp only [Act.put, List.setIfInBounds_toArray, List.set_cons_zero, List.set_cons_succ]
  refine wpAnyH_take (i := 9) (oi := ?oie9) (v := ?ve9) ?hie9 (by kernel_rfl) (by kernel_rfl) (by kernel_rfl) ?hQe9 ?hye9 HS ?reste9
  case hie9 => simp only [List.getElem?_toArray, List.getElem?_cons_succ, List.getElem?_cons_zero]; exact rfl
  case hQe9 => exact fun _ _ _ h => h
  case hye9 =>
    refine Or.inl ⟨by rfl, ?_⟩
    intro wS hSw
    obtain ⟨z1, z2⟩ := hSw
    go_simp
    try with_reducible rfl
  try simp only [Act.put, List.setIfInBounds_toArray, List.set_cons_zero, List.set_cons_succ]
  refine wpAnyH_take (i := 10) (oi := ?oie10) (v := ?ve10) ?hie10 (by kernel_rfl) (by kernel_rfl) (by kernel_rfl) ?hQe10 ?hye10 HS ?reste10
  case hie10 => simp only [List.getElem?_toArray, List.getElem?_cons_succ, List.getElem?_cons_zero]; exact rfl
  case hQe10 => exact fun _ _ _ h => h
  case hye10 =>
    refine Or.inl ⟨by rfl, ?_⟩
    intro wS hSw
    go_simp
    try with_reducible rfl
  try simp only [Act.put, List.setIfInBounds_toArray, List.set_cons_zero, List.set_cons_succ]
  refine wpAnyH_take (i := 11) (oi := ?oie11) (v := ?ve11) ?hie11 (by kernel_rfl) (by kernel_rfl) (by kernel_rfl) ?hQe11 ?hye11 HS ?reste11
  case hie11 => simp only [List.getElem?_toArray, List.getElem?_cons_succ, List.getElem?_cons_zero]; exact rfl
  case hQe11 => exact fun _ _ _ h => h
  case hye11 =>
    refine Or.inl ⟨by rfl, ?_⟩
    intro wS hSw
    go_simp
    try with_reducible rfl
  try simp only [Act.put, List.setIfInBounds_toArray, List.set_cons_zero, List.set_cons_succ]
  refine wpAnyH_take (i := 12) (oi := ?oie12) (v := ?ve12) ?hie12 (by kernel_rfl) (by kernel_rfl) (by kernel_rfl) ?hQe12 ?hye12 HS ?reste12
  case hie12 => simp only [List.getElem?_toArray, List.getElem?_cons_succ, List.getElem?_cons_zero]; exact rfl
  case hQe12 => exact fun _ _ _ h => h
  case hye12 =>
    refine Or.inl ⟨by rfl, ?_⟩
    intro wS hSw
    refine Eq.trans (exec_load_mid 94 (.tmp 40) ?_ q (i * 16) ?_ (bs (pad l)) _ hSw.2 Try.undB rfl HIN.out) ?_
    · rfl
    · rfl
    · with_reducible rfl
  try simp only [Act.put, List.setIfInBounds_toArray, List.set_cons_zero, List.set_cons_succ]
  refine wpAnyH_take (i := 13) (oi := ?oie13) (v := ?ve13) ?hie13 (by kernel_rfl) (by kernel_rfl) (by kernel_rfl) ?hQe13 ?hye13 HS ?reste13
  case hie13 => simp only [List.getElem?_toArray, List.getElem?_cons_succ, List.getElem?_cons_zero]; exact rfl
  case hQe13 => exact fun _ _ _ h => h
  case hye13 =>
    refine Or.inl ⟨by rfl, ?_⟩
    intro wS hSw
    refine Eq.trans (exec_build 96 #[(0, .tmp 34), (1, .tmp 41)] ?_ #[(0, .int .i64 (i : Int)), (1, .agg (bs (pad l)).toArray)] ?_ _ (built_write (i : Int) (bs (pad l)) HP.out)) ?_
    · rfl
    · simp only [List.map_toArray, List.map_cons, List.map_nil]; rfl
    · with_reducible rfl
  try simp only [Act.put, List.setIfInBounds_toArray, List.set_cons_zero, List.set_cons_succ]
  refine wpAnyH_ready (rs := [4, 14]) (by kernel_rfl) (by simp) ?_
  refine (AllReadyH.cons (o := ?oe4) ?hoe4 (fun K hK => ?stepe4) (AllReadyH.cons (o := ?oe14) ?hoe14 (fun K hK => ?stepe14) AllReadyH.nil))
  case hoe4 => simp only [List.getElem?_toArray, List.getElem?_cons_succ, List.getElem?_cons_zero]; exact rfl
  case hoe14 => simp only [List.getElem?_toArray, List.getElem?_cons_succ, List.getElem?_cons_zero]; exact rfl
  case stepe4 =>
    go_simp
    refine hK.out _ _ ⟨by simpa using y1, by have := HM.out.seen.row i HI.out; rw [upd_same] at this; simpa using this⟩ (fun HS => ?_)
    clear hK K
    try simp only [Act.put, List.setIfInBounds_toArray, List.set_cons_zero, List.set_cons_succ]
    refine wpAnyH_ready (rs := [14]) (by kernel_rfl) (by simp) ?_
    refine AllReadyH.cons (o := ?oea14) ?hoea14 (fun K hK => ?stepea14) AllReadyH.nil
    case hoea14 => simp only [List.getElem?_toArray, List.getElem?_cons_succ, List.getElem?_cons_zero]; exact rfl
    rw [if_pos (by rfl)]
    obtain ⟨ie, hie, hz0, hz1, hz2⟩ := info_parts Try.infoW
    refine wp_buildSlice 75 96 1 _ rfl (.int .i64 (i : Int) :: bs (pad l)).toArray ie _ Try.underlying75 hie hz0 (by rw [hz1]; decide) (by rw [hz1]; decide) (by rw [hz1]; simp only [List.map_toArray, List.map_cons, List.map_nil]; exact filled_write (i : Int) (bs (pad l)) HP.out) ?_
    refine hK.out _ _ ⟨by have h0 := (HM.out.alloc (((Below.refl _ _).drew).alloc (Nat.le_refl _) (.cells (.int .i64 (i : Int) :: bs (pad l)).toArray 96) : Below w3.heap.size w3 _)).blk.cell 1; simpa using h0, by have := (HM.out.alloc (((Below.refl _ _).drew).alloc (Nat.le_refl _) (.cells (.int .i64 (i : Int) :: bs (pad l)).toArray 96) : Below w3.heap.size w3 _)).seen.row i HI.out; rw [upd_same] at this; exact this⟩ (fun HS => ?_)
    clear hK K
    try simp only [Act.put, List.setIfInBounds_toArray, List.set_cons_zero, List.set_cons_succ]
    have hM4 : Mid w1 (w3.drew.alloc (.cells (.int .i64 (i : Int) :: bs (pad l)).toArray 96)) F1 g s1 k q A1 c1 i (pad l) := HM.out.alloc (((Below.refl _ _).drew).alloc (Nat.le_refl _) _)
    have hN4 : (w3.drew.alloc (.cells (.int .i64 (i : Int) :: bs (pad l)).toArray 96)).rangeAt w3.heap.size 0 (.int .i64 (i : Int) :: bs (pad l)) := fun j v hv => by
      have := (Blk.new w3.drew 96 (.int .i64 (i : Int) :: bs (pad l)).toArray).cell (0 + j)
      rw [show w3.heap.size = w3.drew.heap.size by simp, this, Nat.zero_add]
      simpa using hv
    have hS4 : (w3.drew.alloc (.cells (.int .i64 (i : Int) :: bs (pad l)).toArray 96)).heap.size = w3.heap.size + 1 := by simp
    have hK4 := hid hM4.kp.size
    generalize (w3.drew.alloc (.cells (.int .i64 (i : Int) :: bs (pad l)).toArray 96)) = w4 at *
    have HM4 := hid hM4
    have HN4 := hid hN4
    clear hM4 hN4 HS HM
    refine wpAnyH_ready (rs := [15]) (by kernel_rfl) (by simp) ?_
    refine AllReadyH.cons (o := ?oea15) ?hoea15 (fun K hK => ?stepea15) AllReadyH.nil
    case hoea15 => simp only [List.getElem?_toArray, List.getElem?_cons_succ, List.getElem?_cons_zero]; exact rfl
    rw [if_pos (by rfl)]
    refine wp_append_w _ _ rfl A1 s1.W.length c1 (wcs s1.W) rfl HM4.out.wait w3.heap.size rfl (.int .i64 (i : Int) :: bs (pad l)) (by rw [List.length_cons, HP.out]) HN4.out (fun u hu => by rcases List.mem_cons.1 hu with rfl | hu; rfl; exact bs_one _ u hu) HWl.out ?_
    intro A5 c5 w5 ho5 hg5 hA5
    have HL5 := hid (Mid.left HD.out HI.out (by rw [HL.out]; exact HN.out) HM4.out ho5 hg5 hA5)
    have eg5 : w5.heap[g]? = w4.heap[g]? := hg5.block g HM4.out.blk.lt (fun e => (HD.out.Ag g e.symm).1 rfl)
    have eq5 : w5.heap[q]? = w4.heap[q]? := hg5.block q HM4.out.seen.lt (fun e => (HD.out.Ag q e.symm).2.2.1 rfl)
    have f5 := (HM4.out.blk.keep eg5).frozen 2
    have u1 := (HM4.out.blk.keep eg5).cell 1
    have u2 := (HM4.out.blk.keep eg5).cell 2
    simp at u1 u2
    have HR5 : Hid (w5.rangeAt q (i * 16) (bs (pad l))) := hid (by have := rangeAt_keep (HM4.out.seen.row i HI.out) eq5; rw [upd_same] at this; exact this)
    clear ho5 hg5 hA5 eg5 eq5
    refine hK.out _ _ ⟨u1, HR5.out⟩ (fun HS => ?_)
    clear hK K
    try simp only [Act.put, List.setIfInBounds_toArray, List.set_cons_zero, List.set_cons_succ]
    refine wpAnyH_take (i := 16) (oi := ?oiea16) (v := ?vea16) ?hiea16 (by kernel_rfl) (by kernel_rfl) (by kernel_rfl) ?hQea16 ?hyea16 HS ?restea16
    case hiea16 => simp only [List.getElem?_toArray, List.getElem?_cons_succ, List.getElem?_cons_zero]; exact rfl
    case hQea16 => exact fun _ _ _ h => h
    case hyea16 =>
      refine Or.inl ⟨by rfl, ?_⟩
      intro wS hSw
      go_simp
      try with_reducible rfl
    try simp only [Act.put, List.setIfInBounds_toArray, List.set_cons_zero, List.set_cons_succ]
    refine wpAnyH_take (i := 17) (oi := ?oiea17) (v := ?vea17) ?hiea17 (by kernel_rfl) (by kernel_rfl) (by kernel_rfl) ?hQea17 ?hyea17 HS ?restea17
    case hiea17 => simp only [List.getElem?_toArray, List.getElem?_cons_succ, List.getElem?_cons_zero]; exact rfl
    case hQea17 => exact fun _ _ _ h => h
    case hyea17 =>
      refine Or.inl ⟨by rfl, ?_⟩
      intro wS hSw
      go_simp
      try with_reducible rfl
    try simp only [Act.put, List.setIfInBounds_toArray, List.set_cons_zero, List.set_cons_succ]
    refine wpAnyH_ready (rs := [18]) (by kernel_rfl) (by simp) ?_
    refine AllReadyH.cons (o := ?oea18) ?hoea18 (fun K hK => ?stepea18) AllReadyH.nil
    case hoea18 => simp only [List.getElem?_toArray, List.getElem?_cons_succ, List.getElem?_cons_zero]; exact rfl
    go_simp
    refine hK.out _ _ ⟨by have h0 := World.cell?_setCell_other w5 ⟨g, 2, none⟩ ⟨g, 1, none⟩ (.slice A5 (s1.W.length + 1) c5) (by simp); rw [h0]; exact u1, rangeAt_keep HR5.out (Below.heap_setCell w5 ⟨g, 2, none⟩ _ q (fun e => HD.out.gq e.symm))⟩ (fun HS => ?_)
    clear hK K
    try simp only [Act.put]
    refine wpAnyH_done (by kernel_rfl) ?_ _
    clear HS HR5 u1 u2 f5
    go_wp2
    go_ret
    exact ⟨rfl, Left.after HK1.out HF1.out HL5.out⟩
  case stepe14 =>
    rw [if_pos (by rfl)]
    obtain ⟨ie, hie, hz0, hz1, hz2⟩ := info_parts Try.infoW
    refine wp_buildSlice 75 96 1 _ rfl (.int .i64 (i : Int) :: bs (pad l)).toArray ie _ Try.underlying75 hie hz0 (by rw [hz1]; decide) (by rw [hz1]; decide) (by rw [hz1]; simp only [List.map_toArray, List.map_cons, List.map_nil]; exact filled_write (i : Int) (bs (pad l)) HP.out) ?_
    refine hK.out _ _ ⟨by have h0 := (HM.out.alloc (((Below.refl _ _).drew).alloc (Nat.le_refl _) (.cells (.int .i64 (i : Int) :: bs (pad l)).toArray 96) : Below w3.heap.size w3 _)).blk.cell 1; simpa using h0, by have := (HM.out.alloc (((Below.refl _ _).drew).alloc (Nat.le_refl _) (.cells (.int .i64 (i : Int) :: bs (pad l)).toArray 96) : Below w3.heap.size w3 _)).seen.row i HI.out; rw [upd_same] at this; exact this⟩ (fun HS => ?_)
    clear hK K
    try simp only [Act.put, List.setIfInBounds_toArray, List.set_cons_zero, List.set_cons_succ]
    have yd : (w3.drew.alloc (.cells (.int .i64 (i : Int) :: bs (pad l)).toArray 96)).cell? ⟨g, 2, none⟩ = some (.slice A1 s1.W.length c1) := by have h0 := (HM.out.alloc (((Below.refl _ _).drew).alloc (Nat.le_refl _) (.cells (.int .i64 (i : Int) :: bs (pad l)).toArray 96) : Below w3.heap.size w3 _)).blk.cell 2; simpa using h0
    refine wpAnyH_ready (rs := [4]) (by kernel_rfl) (by simp) ?_
    refine AllReadyH.cons (o := ?oeb4) ?hoeb4 (fun K hK => ?stepeb4) AllReadyH.nil
    case hoeb4 => simp only [List.getElem?_toArray, List.getElem?_cons_succ, List.getElem?_cons_zero]; exact rfl
    rw [if_pos (by rfl)]
    refine wp_load_slice 75 (.tmp 32) rfl 96 Try.underlying75 g 2 rfl _ yd ?_
    refine hK.out _ _ ⟨by have h0 := (HM.out.alloc (((Below.refl _ _).drew).alloc (Nat.le_refl _) (.cells (.int .i64 (i : Int) :: bs (pad l)).toArray 96) : Below w3.heap.size w3 _)).blk.cell 1; simpa using h0, by have := (HM.out.alloc (((Below.refl _ _).drew).alloc (Nat.le_refl _) (.cells (.int .i64 (i : Int) :: bs (pad l)).toArray 96) : Below w3.heap.size w3 _)).seen.row i HI.out; rw [upd_same] at this; exact this⟩ (fun HS => ?_)
    clear hK K
    try simp only [Act.put, List.setIfInBounds_toArray, List.set_cons_zero, List.set_cons_succ]
    clear yd
    have hM4 : Mid w1 (w3.drew.alloc (.cells (.int .i64 (i : Int) :: bs (pad l)).toArray 96)) F1 g s1 k q A1 c1 i (pad l) := HM.out.alloc (((Below.refl _ _).drew).alloc (Nat.le_refl _) _)
    have hN4 : (w3.drew.alloc (.cells (.int .i64 (i : Int) :: bs (pad l)).toArray 96)).rangeAt w3.heap.size 0 (.int .i64 (i : Int) :: bs (pad l)) := fun j v hv => by
      have := (Blk.new w3.drew 96 (.int .i64 (i : Int) :: bs (pad l)).toArray).cell (0 + j)
      rw [show w3.heap.size = w3.drew.heap.size by simp, this, Nat.zero_add]
      simpa using hv
    have hS4 : (w3.drew.alloc (.cells (.int .i64 (i : Int) :: bs (pad l)).toArray 96)).heap.size = w3.heap.size + 1 := by simp
    have hK4 := hid hM4.kp.size
    generalize (w3.drew.alloc (.cells (.int .i64 (i : Int) :: bs (pad l)).toArray 96)) = w4 at *
    have HM4 := hid hM4
    have HN4 := hid hN4
    clear hM4 hN4 HS HM
    refine wpAnyH_ready (rs := [15]) (by kernel_rfl) (by simp) ?_
    refine AllReadyH.cons (o := ?oeb15) ?hoeb15 (fun K hK => ?stepeb15) AllReadyH.nil
    case hoeb15 => simp only [List.getElem?_toArray, List.getElem?_cons_succ, List.getElem?_cons_zero]; exact rfl
    rw [if_pos (by rfl)]
    refine wp_append_w _ _ rfl A1 s1.W.length c1 (wcs s1.W) rfl HM4.out.wait w3.heap.size rfl (.int .i64 (i : Int) :: bs (pad l)) (by rw [List.length_cons, HP.out]) HN4.out (fun u hu => by rcases List.mem_cons.1 hu with rfl | hu; rfl; exact bs_one _ u hu) HWl.out ?_
    intro A5 c5 w5 ho5 hg5 hA5
    have HL5 := hid (Mid.left HD.out HI.out (by rw [HL.out]; exact HN.out) HM4.out ho5 hg5 hA5)
    have eg5 : w5.heap[g]? = w4.heap[g]? := hg5.block g HM4.out.blk.lt (fun e => (HD.out.Ag g e.symm).1 rfl)
    have eq5 : w5.heap[q]? = w4.heap[q]? := hg5.block q HM4.out.seen.lt (fun e => (HD.out.Ag q e.symm).2.2.1 rfl)
    have f5 := (HM4.out.blk.keep eg5).frozen 2
    have u1 := (HM4.out.blk.keep eg5).cell 1
    have u2 := (HM4.out.blk.keep eg5).cell 2
    simp at u1 u2
    have HR5 : Hid (w5.rangeAt q (i * 16) (bs (pad l))) := hid (by have := rangeAt_keep (HM4.out.seen.row i HI.out) eq5; rw [upd_same] at this; exact this)
    clear ho5 hg5 hA5 eg5 eq5
    refine hK.out _ _ ⟨u1, HR5.out⟩ (fun HS => ?_)
    clear hK K
    try simp only [Act.put, List.setIfInBounds_toArray, List.set_cons_zero, List.set_cons_succ]
    refine wpAnyH_take (i := 16) (oi := ?oieb16) (v := ?veb16) ?hieb16 (by kernel_rfl) (by kernel_rfl) (by kernel_rfl) ?hQeb16 ?hyeb16 HS ?resteb16
    case hieb16 => simp only [List.getElem?_toArray, List.getElem?_cons_succ, List.getElem?_cons_zero]; exact rfl
    case hQeb16 => exact fun _ _ _ h => h
    case hyeb16 =>
      refine Or.inl ⟨by rfl, ?_⟩
      intro wS hSw
      go_simp
      try with_reducible rfl
    try simp only [Act.put, List.setIfInBounds_toArray, List.set_cons_zero, List.set_cons_succ]
    refine wpAnyH_take (i := 17) (oi := ?oieb17) (v := ?veb17) ?hieb17 (by kernel_rfl) (by kernel_rfl) (by kernel_rfl) ?hQeb17 ?hyeb17 HS ?resteb17
    case hieb17 => simp only [List.getElem?_toArray, List.getElem?_cons_succ, List.getElem?_cons_zero]; exact rfl
    case hQeb17 => exact fun _ _ _ h => h
    case hyeb17 =>
      refine Or.inl ⟨by rfl, ?_⟩
      intro wS hSw
      go_simp
      try with_reducible rfl
    try simp only [Act.put, List.setIfInBounds_toArray, List.set_cons_zero, List.set_cons_succ]
    refine wpAnyH_ready (rs := [18]) (by kernel_rfl) (by simp) ?_
    refine AllReadyH.cons (o := ?oeb18) ?hoeb18 (fun K hK => ?stepeb18) AllReadyH.nil
    case hoeb18 => simp only [List.getElem?_toArray, List.getElem?_cons_succ, List.getElem?_cons_zero]; exact rfl
    go_simp
    refine hK.out _ _ ⟨by have h0 := World.cell?_setCell_other w5 ⟨g, 2, none⟩ ⟨g, 1, none⟩ (.slice A5 (s1.W.length + 1) c5) (by simp); rw [h0]; exact u1, rangeAt_keep HR5.out (Below.heap_setCell w5 ⟨g, 2, none⟩ _ q (fun e => HD.out.gq e.symm))⟩ (fun HS => ?_)
    clear hK K
    try simp only [Act.put]
    refine wpAnyH_done (by kernel_rfl) ?_ _
    clear HS HR5 u1 u2 f5
    go_wp2
    go_ret
    exact ⟨rfl, Left.after HK1.out HF1.out HL5.out⟩
end Go.Proofs.Ytocmgdhgimpfhaa
