import Derived.Test.YtolaojkcofbkhaaGreatVtB
namespace Go.Proofs.YtolaojkcofbkhaaGreat
open Go.RowKit
theorem own_formz {w : World} {base : Nat} {e : TypeId} {z n : Nat} {v : Value} {xs : List Value} (h : w.ownsRow base e z v n xs) : ∃ A c, v = .slice A n c ∧ n ≤ c := by
 rcases h.2 with ⟨rfl, rfl⟩ | ⟨g, cap, cur, rfl, _, _, hnc, _⟩
 · exact ⟨none, 0, rfl, nl _⟩
 · exact ⟨_, _, rfl, hnc⟩
def Grew (base : Nat) (e : TypeId) (z : Nat) (w w' : World) (A A' : Option Addr) (n c : Nat) (xs : List Value) : Prop := w'.ownsRow base e z (.slice A' n c) n xs ∧ n ≤ c ∧ w.grownBy w' (A.map (·.block)) ∧ Lies A A' w.heap.size
theorem run_append_L {P : Program} (w : World) (t ty e : TypeId) (z0 : Value) (z by_ : Nat) (ht : P.underlying t = some (.slice e)) (hi : (P.info? e).map (fun i => (i.zero, i.size, i.bytes)) = some (some z0, z, by_)) (hz : z0.cells.size = z) (hz1 : 0 < z)
 (base : Nat) (A : Option Addr) (n c : Nat) (xs : List Value) (hown : w.ownsRow base e z (.slice A n c) n xs) (A2 : Option Addr) (m c2 : Nat)
 (news : List Value) (hl : news.length = m * z) (hr : 0 < m → ∃ b off, A2 = some ⟨b, off, none⟩ ∧ w.rangeAt b off news) (h1 : ∀ u ∈ news, u.oneCell' = true) (hn : (n + m) * by_ ≤ 140737488355328) (hn2 : n + m ≤ maxLen) (hbase : base ≤ w.heap.size) :
 ∃ A' c' w', (Builtin.append_ #[t, t] ty #[.slice A n c, .slice A2 m c2]).run P w = .ok (.slice A' (n + m) c') w' ∧ Grew base e z w w' A A' (n + m) c' (xs ++ news) := by
 obtain ⟨i, hi, hz0, hz1', hz2⟩ := info_parts hi
 have hv : (Value.slice A n c).ownBlock = A.map (·.block) := by cases A <;> rfl
 rcases Nat.eq_zero_or_pos m with h0 | h0
 · subst h0
   have hnil : news = [] := List.eq_nil_of_length_eq_zero (by simpa using hl)
   subst hnil
   obtain ⟨A3, c3, h3, hc3⟩ := own_formz hown
   injection h3 with h3 _ h4
   subst h3 h4
   refine ⟨A, c, w, ?_, by simpa using hown, hc3, grown_refl _ _, fun d hd => .inl hd⟩
   cases A <;> cases A2 <;> simp [Builtin.append_, run_underlying ht, sizeOf, typeInfo, hi, Builtin.lenOf, Builtin.firstCells, loadCells, loadCellsFrom, storeCells, hc3]
 · obtain ⟨b, off, rfl, hrr⟩ := hr h0
   obtain ⟨v', w', hrun, h2, h3, _, h5⟩ := run_append_own_at (P := P) w base t ty e i z0 z by_ ht hi hz0 hz1' hz2 hz hz1 _ n xs hown ⟨b, off, none⟩ m c2 news hl (fun j u hu => by rw [add_plain]; exact hrr j u hu) h1 hn2 hn hbase
   obtain ⟨A', c', rfl, hc'⟩ := own_formz h2
   have hv2 : (Value.slice A' (n + m) c').ownBlock = A'.map (·.block) := by cases A' <;> rfl
   rw [hv] at h3 h5
   rw [hv2] at h5
   exact ⟨A', c', w', hrun, h2, hc', h3, fun d hd => by
    rcases h5 with h5 | h5
    · exact .inl (h5 ▸ hd)
    · rw [h5] at hd; injection hd with hd; exact .inr hd.symm⟩
theorem wp_append_run {op : Oper} {a : Act} {w w' : World} {K : Act → World → Prop} {Q : Exit → Act → World → Prop} (t : TypeId) (s x : Operand) (ho : op.op = .call { callee := .builtin .append, args := #[s, x], argTypes := #[t, t] }) (vs vx v' : Value) (hs : a.eval s = vs) (hx : a.eval x = vx)
 (hrun : (Builtin.append_ #[t, t] op.type #[vs, vx]).run Tryz.prog w = .ok v' w') (h : K (a.put op.dst v') w') : op.wp Tryz.prog a w K Q := by
 unfold Oper.wp execOp
 simp only [ho, resolve, invoke, builtin, Sem.run_bind, Sem.run_pure, Result.andThen_ok, List.map_toArray, List.map_cons, List.map_nil, hs, hx, hrun]
 exact h
theorem run_buildSlice0 {P : Program} (w : World) (t e : TypeId) (hu : P.underlying t = some (.slice e)) (hi : (P.info? e).isSome = true) : (Instr.buildSlice t 0 #[]).run P w = .ok (.slice (some ⟨w.heap.size, 0, none⟩) 0 0) (w.alloc (.cells #[] e)) := by
 obtain ⟨ie, hie⟩ := Option.isSome_iff_exists.1 hi
 simp [Instr.buildSlice, run_underlying hu, sizeOf, typeInfo, hie, newRow, Instr.fill]
 rw [show (Array.map (fun _ => default) (Array.range 0) : Array Value) = #[] from Array.eq_empty_of_size_eq_zero (by simp)]
theorem wp_buildSlice0 {op : Oper} {a : Act} {w : World} {K : Act → World → Prop} {Q : Exit → Act → World → Prop} (t e : TypeId) (ho : op.op = .buildSlice t 0 #[]) (hu : Tryz.prog.underlying t = some (.slice e)) (hi : (Tryz.prog.info? e).isSome = true)
 (h : K (a.put op.dst (.slice (some ⟨w.heap.size, 0, none⟩) 0 0)) (w.alloc (.cells #[] e))) : op.wp Tryz.prog a w K Q := by
 unfold Oper.wp execOp
 simp only [ho, List.map_toArray, List.map_nil, Sem.run_bind, run_buildSlice0 w t e hu hi, Result.andThen_ok]
 exact h
theorem own_empty (w : World) (e : TypeId) (z base : Nat) (hb : base ≤ w.heap.size) : (w.alloc (.cells #[] e)).ownsRow base e z (.slice (some ⟨w.heap.size, 0, none⟩) 0 0) 0 [] :=
 ⟨by simp, .inr ⟨w.heap.size, 0, #[], rfl, hb, Blk.new w e #[], nl _, by unfold maxLen; omega, by simp, by simp⟩⟩
end Go.Proofs.YtolaojkcofbkhaaGreat
