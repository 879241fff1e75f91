/- How memory stands, of no package of the program: what a call may turn, blocks and rows that stay, cells of a row in the middle of a block, append of a row of structs. Nothing is assumed. -/
import Derived.Test.YtejmllpffocneaaBase
import Derived.Test.YtejmllpffocneaaChecked
import Derived.Deep.MidRow
import Derived.Deep.RegionHeld
import Derived.Deep.Cut
import Derived.Great.BuildSlice
namespace Go.Proofs.Ytejmllpffocneaa
open Go.RowKit

/-- Nothing that was there turns, but in blocks of F. -/
structure Kp (F : Nat → Prop) (w w' : World) : Prop where
  os : w'.os = w.os
  tape : w'.tape = w.tape
  output : w'.output = w.output
  size : w.heap.size ≤ w'.heap.size
  block : ∀ k, k < w.heap.size → ¬ F k → w'.heap[k]? = w.heap[k]?
theorem Kp.refl (F : Nat → Prop) (w : World) : Kp F w w := ⟨rfl, rfl, rfl, Nat.le_refl _, fun _ _ _ => rfl⟩
theorem Kp.trans {F : Nat → Prop} {a b c : World} (h : Kp F a b) (k : Kp F b c) : Kp F a c :=
  ⟨k.os.trans h.os, k.tape.trans h.tape, k.output.trans h.output, Nat.le_trans h.size k.size, fun i hi hF => (k.block i (Nat.lt_of_lt_of_le hi h.size) hF).trans (h.block i hi hF)⟩
/-- The second may turn what is new as well. -/
theorem Kp.step {F G : Nat → Prop} {a b c : World} (h : Kp F a b) (k : Kp G b c) (hG : ∀ j, G j → F j ∨ a.heap.size ≤ j) : Kp F a c :=
  ⟨k.os.trans h.os, k.tape.trans h.tape, k.output.trans h.output, Nat.le_trans h.size k.size, fun i hi hF => (k.block i (Nat.lt_of_lt_of_le hi h.size) (fun e => by rcases hG i e with e | e; exact hF e; omega)).trans (h.block i hi hF)⟩
theorem Kp.mono {F G : Nat → Prop} {a b : World} (h : Kp F a b) (hG : ∀ j, F j → G j) : Kp G a b := ⟨h.os, h.tape, h.output, h.size, fun i hi hF => h.block i hi fun e => hF (hG i e)⟩
theorem Kp.below {F : Nat → Prop} {B : Nat} {a b : World} (h : Kp F a b) (hF : ∀ j, F j → B ≤ j) (hB : B ≤ a.heap.size) : Below B a b :=
  ⟨h.os, h.tape, h.output, h.size, fun k hk => h.block k (by omega) fun e => by have := hF k e; omega⟩
theorem Kp.ofBelow {F : Nat → Prop} {a b : World} (h : Below a.heap.size a b) : Kp F a b := ⟨h.os, h.tape, h.output, h.size, fun k hk _ => h.block k hk⟩
theorem Kp.grown {F : Nat → Prop} {a b : World} {row : Option Nat} (h : a.grownBy b row) (hr : ∀ k, row = some k → F k ∨ a.heap.size ≤ k) : Kp F a b :=
  ⟨h.os, h.tape, h.output, h.size, fun k hk hF => h.block k hk fun e => by rcases hr k e.symm with e | e; exact hF e; omega⟩
theorem Kp.alloc (F : Nat → Prop) (w : World) (o : Obj) : Kp F w (w.alloc o) := Kp.ofBelow ((Below.refl _ _).alloc (Nat.le_refl _) _)
theorem Kp.drew (F : Nat → Prop) (w : World) : Kp F w w.drew := Kp.ofBelow ((Below.refl _ _).drew)
theorem Kp.setCell {F : Nat → Prop} (w : World) (g o : Nat) (u : Value) (h : F g) : Kp F w (w.setCell ⟨g, o, none⟩ u) := Kp.grown (grown_setCell w g o u) fun k hk => by injection hk with hk; subst hk; exact .inl h
theorem grown_setCells (g : Nat) : ∀ (vs : List Value) (o : Nat) (w : World), w.grownBy (w.setCells g o vs) (some g)
  | [], _, w => grown_refl w _
  | v :: r, o, w => (grown_setCell w g o v).trans (grown_setCells g r (o + 1) _)
theorem Kp.setCells {F : Nat → Prop} (w : World) (g o : Nat) (vs : List Value) (h : F g) : Kp F w (w.setCells g o vs) := Kp.grown (grown_setCells g vs o w) fun k hk => by injection hk with hk; subst hk; exact .inl h

theorem rangeAt_keep {w w' : World} {b o : Nat} {cs : List Value} (h : w.rangeAt b o cs) (hk : w'.heap[b]? = w.heap[b]?) : w'.rangeAt b o cs :=
  fun j v hv => (World.cell?_of_block (a := ⟨b, o + j, none⟩) hk).trans (h j v hv)
theorem frozen_of_block {w w' : World} {b o : Nat} (h : w'.heap[b]? = w.heap[b]?) : w'.frozen? ⟨b, o, none⟩ = w.frozen? ⟨b, o, none⟩ := by
  unfold World.frozen?
  simp only [h]
theorem there_keep {w w' : World} {b o n : Nat} (h : w.there b o n) (hk : w'.heap[b]? = w.heap[b]?) : w'.there b o n := fun j hj =>
  ⟨by rw [World.cell?_of_block (a := ⟨b, o + j, none⟩) hk]; exact (h j hj).1, by rw [frozen_of_block hk]; exact (h j hj).2⟩
/-- A stretch of a block written. -/
theorem Blk.setCells {g : Nat} {t : TypeId} : ∀ (vs : List Value) (o : Nat) (w : World) (cs : Array Value), Blk w g t cs → o + vs.length ≤ cs.size →
    ∃ cs' : Array Value, Blk (w.setCells g o vs) g t cs' ∧ cs'.toList = cs.toList.take o ++ vs ++ cs.toList.drop (o + vs.length)
  | [], o, w, cs, h, _ => ⟨cs, h, by simp⟩
  | v :: r, o, w, cs, h, hl => by
    simp only [List.length_cons] at hl
    obtain ⟨cs', h1, h2⟩ := Blk.setCells r (o + 1) (w.setCell ⟨g, o, none⟩ v) (cs.setIfInBounds o v) (h.store o v) (by simp; omega)
    refine ⟨cs', h1, ?_⟩
    have hlt : o < cs.toList.length := by simpa using by omega
    rw [h2, Array.toList_setIfInBounds, List.take_succ_eq_append_getElem (by simpa using hlt), List.take_set_of_le (Nat.le_refl _), List.getElem_set_self, List.drop_set_of_lt (by omega)]
    simp [Nat.add_assoc, Nat.add_comm 1]
theorem Blk.setAll {g : Nat} {t : TypeId} {w : World} {cs : Array Value} (h : Blk w g t cs) (vs : List Value) (hl : vs.length = cs.size) : Blk (w.setCells g 0 vs) g t vs.toArray := by
  obtain ⟨cs', h1, h2⟩ := Blk.setCells vs 0 w cs h (by omega)
  have : cs' = vs.toArray := by
    apply Array.toList_inj.1
    rw [h2, List.drop_eq_nil_of_le (by simp; omega)]
    simp
  rwa [this] at h1

theorem own_keep {w w' : World} {base : Nat} {e : TypeId} {z n c : Nat} {A : Option Addr} {xs : List Value} (h : w.ownsRow base e z (.slice A n c) n xs) (hk : ∀ b, A.map (·.block) = some b → w'.heap[b]? = w.heap[b]?) : w'.ownsRow base e z (.slice A n c) n xs := by
  refine ⟨h.1, ?_⟩
  rcases h.2 with h2 | ⟨g, cap, cur, hv, hb, hg, h3⟩
  · exact .inl h2
  · injection hv with hA h4 h5
    subst hA
    exact .inr ⟨g, cap, cur, by rw [h5], hb, (hk g rfl).trans hg, h3⟩
theorem own_lt {w : World} {base : Nat} {e : TypeId} {z n c : Nat} {A : Option Addr} {xs : List Value} (h : w.ownsRow base e z (.slice A n c) n xs) (b : Nat) (hb : A.map (·.block) = some b) : b < w.heap.size := by
  rcases h.2 with ⟨hv, _⟩ | ⟨g, cap, cur, hv, _, hg, _⟩
  · injection hv with hA; subst hA; cases hb
  · injection hv with hA
    subst hA
    simp at hb
    subst hb
    exact (Array.getElem?_eq_some_iff.1 hg).1
theorem own_range {w : World} {base : Nat} {e : TypeId} {z n c : Nat} {A : Option Addr} {xs : List Value} (h : w.ownsRow base e z (.slice A n c) n xs) (hn : 0 < n) : ∃ b, A = some ⟨b, 0, none⟩ ∧ b < w.heap.size ∧ w.rangeAt b 0 xs := by
  rcases h.2 with ⟨_, h0⟩ | ⟨g, cap, cur, hv, hb, hg, _, _, _, ht⟩
  · omega
  · injection hv with hA
    refine ⟨g, hA, (Array.getElem?_eq_some_iff.1 hg).1, fun j u hu => ?_⟩
    rw [cell_of_row w g _ cur e (0, 0) hg, Nat.zero_add]
    rw [← ht, List.getElem?_take] at hu
    split at hu
    · simpa using hu
    · cases hu

theorem exec_build {op : Oper} {a : Act} {w : World} (ty : TypeId) (parts : Array (Nat × Operand)) (ho : op.op = .build ty parts)
    (vals : Array (Nat × Value)) (hp : parts.map (fun (i, x) => (i, a.eval x)) = vals) (cells : Array Value) (h : Try.prog.built ty vals.toList = some cells) : (execOp a.eval op).run Try.prog w = .ok (.value (.agg cells)) w := by
  unfold execOp
  simp only [ho, hp, Sem.run_bind, run_build w ty vals cells h, Result.andThen_ok]
  rfl
theorem exec_load_mid {op : Oper} {a : Act} {w : World} (ty : TypeId) (x : Operand) (ho : op.op = .load ty x)
    (b o : Nat) (hx : a.eval x = .pointer (some ⟨b, o, none⟩)) (cs : List Value) (d : TypeDesc) (hc : w.rangeAt b o cs)
    (hu : Try.prog.underlying ty = some d) (hd : d.isRow = true) (hi : (Try.prog.info? ty).map (·.size) = some cs.length) : (execOp a.eval op).run Try.prog w = .ok (.value (.agg cs.toArray)) w := by
  unfold execOp
  simp only [ho, hx, Instr.loadAt, Instr.sureAddr, Sem.run_bind, Sem.run_pure, Result.andThen_ok, run_loadVar_mid w b o ty cs d hc hu hd hi]
theorem wp_load_slice {op : Oper} {a : Act} {w : World} {K : Act → World → Prop} {Q : Exit → Act → World → Prop} (ty : TypeId) (x : Operand) (ho : op.op = .load ty x) (e : TypeId) (hu : Try.prog.underlying ty = some (.slice e))
    (b o : Nat) (hx : a.eval x = .pointer (some ⟨b, o, none⟩)) (v : Value) (hc : w.cell? ⟨b, o, none⟩ = some v) (h : K (a.put op.dst v) w) : op.wp Try.prog a w K Q := by
  have hagg : (isAgg ty).run Try.prog w = .ok false w := by
    unfold isAgg
    rw [Sem.run_bind, run_underlying hu w]
    rfl
  have hl : (loadVar ty ⟨b, o, none⟩).run Try.prog w = .ok v w := by
    unfold loadVar
    rw [Sem.run_bind, hagg]
    simp [hc]
  unfold Oper.wp execOp
  simp only [ho, hx, Instr.loadAt, Instr.sureAddr, Sem.run_bind, Sem.run_pure, Result.andThen_ok, hl]
  exact h
theorem Bts.kp {w w' : World} {F : Nat → Prop} {A : Option Addr} {n : Nat} {l : List UInt8} (h : Bts w 0 w.heap.size A n l) (hk : Kp F w w') (hA : 0 < n → ∀ u, A.map (·.block) = some u → ¬ F u) : Bts w' 0 w'.heap.size A n l :=
  ⟨h.1, fun hn => by
    obtain ⟨b, off, rfl, h1, h2, hc⟩ := h.2 hn
    have e := hk.block b h2 (hA hn b rfl)
    exact ⟨b, off, rfl, h1, Nat.lt_of_lt_of_le h2 hk.size, fun j u hu => (World.cell?_of_block (a := ⟨b, off + j, none⟩) e).trans (hc j u hu)⟩⟩
theorem Bts.lt {w : World} {lo hi n : Nat} {A : Option Addr} {l : List UInt8} (h : Bts w lo hi A n l) (hn : 0 < n) (u : Nat) (hu : A.map (·.block) = some u) : u < hi := by
  obtain ⟨b, off, rfl, _, h2, _⟩ := h.2 hn
  simp at hu
  omega
theorem Try.infoU8 : (Try.prog.info? 5).map (fun i => (i.zero, i.size, i.bytes)) = some (some (.int .u8 0), 1, 1) := by kernel_rfl
theorem own_nilrow (w : World) (b : Nat) (e : TypeId) (z : Nat) : w.ownsRow b e z (.slice none 0 0) 0 [] := ⟨by simp, .inl ⟨rfl, rfl⟩⟩

theorem Bts.at1 {w w' : World} {lo hi hi' n : Nat} {A : Option Addr} {l : List UInt8} (h : Bts w lo hi A n l) (hh : hi ≤ hi') (hk : ∀ u, A.map (·.block) = some u → w'.heap[u]? = w.heap[u]?) : Bts w' lo hi' A n l :=
  ⟨h.1, fun hn => by
    obtain ⟨b, off, rfl, h1, h2, hc⟩ := h.2 hn
    exact ⟨b, off, rfl, h1, Nat.lt_of_lt_of_le h2 hh, fun j u hu => (World.cell?_of_block (a := ⟨b, off + j, none⟩) (hk b rfl)).trans (hc j u hu)⟩⟩

/-- append of one element of z cells behind a row of the call's own. -/
theorem wp_append_z {op : Oper} {a : Act} {w : World} {K : Act → World → Prop} {Q : Exit → Act → World → Prop} (t e : TypeId) (z0 : Value) (z by_ : Nat) (ht : Try.prog.underlying t = some (.slice e)) (hi : (Try.prog.info? e).map (fun i => (i.zero, i.size, i.bytes)) = some (some z0, z, by_)) (hz : z0.cells.size = z) (hz1 : 0 < z) (hby : by_ ≤ 100)
    (s x : Operand) (ho : op.op = .call { callee := .builtin .append, args := #[s, x], argTypes := #[t, t] })
    (A : Option Addr) (n c : Nat) (xs : List Value) (hs : a.eval s = .slice A n c) (hown : w.ownsRow 0 e z (.slice A n c) n xs) (b : Nat) (hx : a.eval x = .slice (some ⟨b, 0, none⟩) 1 1)
    (news : List Value) (hl : news.length = z) (hr : w.rangeAt b 0 news) (h1 : ∀ u ∈ news, u.oneCell' = true) (hn : n ≤ 1000000)
    (h : ∀ A' c' w', w'.ownsRow 0 e z (.slice A' (n + 1) c') (n + 1) (xs ++ news) → w.grownBy w' (A.map (·.block)) → (∀ d, A'.map (·.block) = some d → A.map (·.block) = some d ∨ d = w.heap.size) → K (a.put op.dst (.slice A' (n + 1) c')) w') : op.wp Try.prog a w K Q := by
  obtain ⟨i, hi, hz0, hz1', hz2⟩ := info_parts hi
  have hb : (n + 1) * by_ ≤ 140737488355328 := Nat.le_trans (Nat.mul_le_mul (show n + 1 ≤ 1000001 by omega) hby) (by decide)
  obtain ⟨v', w', hrun, h2, h3, _, h5⟩ := run_append_own_at (P := Try.prog) w 0 t op.type e i z0 z by_ ht hi hz0 hz1' hz2 hz hz1 _ n xs hown ⟨b, 0, none⟩ 1 1 news (by rw [hl, Nat.one_mul]) (fun j u hu => by rw [add_plain]; exact hr j u hu) h1 (by unfold maxLen; omega) hb (Nat.zero_le _)
  have hv : (Value.slice A n c).ownBlock = A.map (·.block) := by cases A <;> rfl
  obtain ⟨A', c', rfl⟩ : ∃ A' c', v' = .slice A' (n + 1) c' := by
    rcases h2.2 with ⟨_, h0⟩ | ⟨g, cap, cur, hv', _⟩
    · omega
    · exact ⟨_, _, hv'⟩
  have hv2 : (Value.slice A' (n + 1) c').ownBlock = A'.map (·.block) := by cases A' <;> rfl
  unfold Oper.wp execOp
  simp only [ho, resolve, invoke, builtin, Sem.run_bind, Sem.run_pure, Result.andThen_ok, List.map_toArray, List.map_cons, List.map_nil, hs, hx, hrun]
  rw [hv] at h3 h5
  rw [hv2] at h5
  exact h A' c' w' h2 h3 fun d hd => by
    rcases h5 with h5 | h5
    · exact .inl (h5 ▸ hd)
    · rw [h5] at hd; injection hd with hd; exact .inr hd.symm
theorem own_ge {w : World} {base : Nat} {e : TypeId} {z n c : Nat} {A : Option Addr} {xs : List Value} (h : w.ownsRow base e z (.slice A n c) n xs) (b : Nat) (hb : A.map (·.block) = some b) : base ≤ b := by
  rcases h.2 with ⟨hv, _⟩ | ⟨g, cap, cur, hv, h1, _⟩
  · injection hv with hA; subst hA; cases hb
  · injection hv with hA
    subst hA
    simp at hb
    omega
theorem own_zero {w : World} {base : Nat} {e : TypeId} {z m : Nat} {v : Value} {xs : List Value} (h : w.ownsRow base e z v m xs) : w.ownsRow 0 e z v m xs := by
  refine ⟨h.1, ?_⟩
  rcases h.2 with h2 | ⟨b, cap, cur, hv, _, h3⟩
  · exact .inl h2
  · exact .inr ⟨b, cap, cur, hv, Nat.zero_le _, h3⟩
theorem own_bel {w w' : World} {base : Nat} {e : TypeId} {z n c : Nat} {A : Option Addr} {xs : List Value} (h : w.ownsRow base e z (.slice A n c) n xs) (hb : Below w.heap.size w w') : w'.ownsRow base e z (.slice A n c) n xs :=
  own_keep h fun b hA => hb.block b (own_lt h b hA)
theorem Lst.own {w : World} {base : Nat} {e : TypeId} {c n : Nat} {A : Option Addr} {xs : List Value} (h : w.ownsRow base e 1 (.slice A n c) n xs) : Lst w base w.heap.size A n xs := by
  refine ⟨h.1.trans (Nat.mul_one _), fun hn => ?_⟩
  rcases h.2 with ⟨hv, h0⟩ | ⟨g, cap, cur, hv, hb, hg, hnc, hcm, hcs, ht⟩
  · omega
  · injection hv with hA
    subst hA
    refine ⟨g, 0, rfl, hb, (Array.getElem?_eq_some_iff.1 hg).1, fun j u hu => ?_⟩
    have hc := h.cells (g := g) (by rfl) j u hu
    have ha : (⟨g, 0, none⟩ : Addr).add j = ⟨g, 0 + j, none⟩ := by unfold Addr.add; split <;> simp_all
    rw [← ha]
    exact hc
theorem meas_j {k m j : Nat} (h : k = m - j) (hj : j < m) : m - (j + 1) < k := by omega
theorem own_nc {w : World} {base : Nat} {e : TypeId} {A : Option Addr} {n c : Nat} {xs : List Value} (h : w.ownsRow base e 1 (.slice A n c) n xs) : n ≤ c := by
  obtain ⟨A', c', h1, h2⟩ := own_form h
  injection h1 with _ _ h3
  rw [h3]; exact h2
theorem own_lower {w : World} {base base' : Nat} {e : TypeId} {z n : Nat} {v : Value} {xs : List Value} (h : w.ownsRow base' e z v n xs) (hb : base ≤ base') : w.ownsRow base e z v n xs := by
  refine ⟨h.1, ?_⟩
  rcases h.2 with h2 | ⟨g, cap, cur, hv, h3, h4⟩
  · exact .inl h2
  · exact .inr ⟨g, cap, cur, hv, Nat.le_trans hb h3, h4⟩
end Go.Proofs.Ytejmllpffocneaa
