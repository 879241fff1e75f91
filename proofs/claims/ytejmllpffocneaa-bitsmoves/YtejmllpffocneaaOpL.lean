/- Single operations on slices of bytes in their boxes: made, stored, put together, appended. Nothing is assumed. -/
import Derived.Test.YtejmllpffocneaaInRd
import Derived.Test.YtejmllpffocneaaMemO
namespace Go.Proofs.Ytejmllpffocneaa
open Go.RowKit

theorem Blk.lst1 {w : World} {T : Nat} {t : TypeId} {v : Value} (h : Blk w T t #[v]) : Lst w 0 w.heap.size (some ⟨T, 0, none⟩) 1 [v] :=
  ⟨rfl, fun _ => ⟨T, 0, rfl, Nat.zero_le _, h.lt, fun j u hu => by
    rw [Nat.zero_add, h.cell j]
    simpa using hu⟩⟩
theorem blk_ne_row {w : World} {b base n c : Nat} {t e : TypeId} {u : Value} {A : Option Addr} {xs : List Value} (h : Blk w b t #[u]) (hte : t ≠ e) (hr : w.ownsRow base e 1 (.slice A n c) n xs) : some b ≠ A.map (·.block) := by
  have := Boxed.not_row (B := b) (t := t) h hte hr
  have hv : (Value.slice A n c).ownBlock = A.map (·.block) := by cases A <;> rfl
  rwa [hv] at this
theorem Blk.grown {w w' : World} {b : Nat} {t : TypeId} {cs : Array Value} {row : Option Nat} (h : Blk w b t cs) (hg : w.grownBy w' row) (hne : some b ≠ row) : Blk w' b t cs := (hg.block b h.lt hne).trans h
theorem own_grown {w w' : World} {base n c b : Nat} {e : TypeId} {A : Option Addr} {xs : List Value} (h : w.ownsRow base e 1 (.slice A n c) n xs) (hg : w.grownBy w' (some b)) (hne : some b ≠ A.map (·.block)) : w'.ownsRow base e 1 (.slice A n c) n xs :=
  own_keep h fun d hd => hg.block d (own_lt h d hd) fun e => hne (by rw [hd, ← e])
theorem bs_one1 (b : UInt8) : ([b] : List UInt8).map (fun c => Value.int .u8 (c.toNat : Int)) = [.int .u8 (b.toNat : Int)] := rfl
set_option maxRecDepth 100000 in
theorem wp_allocB {op : Oper} {a : Act} {w : World} {K : Act → World → Prop} {Q : Exit → Act → World → Prop} (ho : op.op = .alloc 24)
    (h : ∀ w', w'.heap.size = w.heap.size + 1 → Blk w' w.heap.size 24 #[.slice none 0 0] → Below w.heap.size w w' → K (a.put op.dst (.pointer (some ⟨w.heap.size, 0, none⟩))) w') : op.wp Try.prog a w K Q := by
  have hk := h (w.alloc (.cells #[.slice none 0 0] 24)) (by simp) (Blk.new _ _ _) ((Below.refl _ _).alloc (Nat.le_refl _) _)
  unfold Oper.wp execOp
  simp only [ho]
  go_simp
  exact hk
set_option maxRecDepth 100000 in
theorem wp_build1B {op : Oper} {a : Act} {w : World} {K : Act → World → Prop} {Q : Exit → Act → World → Prop} (x : Operand) (ho : op.op = .buildSlice 24 1 #[(0, x)]) (b : UInt8) (hx : a.eval x = .int .u8 (b.toNat : Int))
    (h : ∀ w', w'.heap.size = w.heap.size + 1 → Blk w' w.heap.size 5 #[.int .u8 (b.toNat : Int)] → Below w.heap.size w w' → K (a.put op.dst (.slice (some ⟨w.heap.size, 0, none⟩) 1 1)) w') : op.wp Try.prog a w K Q := by
  have hk := h (w.alloc (.cells #[.int .u8 (b.toNat : Int)] 5)) (by simp) (Blk.new _ _ _) ((Below.refl _ _).alloc (Nat.le_refl _) _)
  unfold Oper.wp execOp
  simp only [ho, List.map_toArray, List.map_cons, List.map_nil, hx]
  go_simp
  exact hk
set_option maxRecDepth 100000 in
theorem wp_loadB {op : Oper} {a : Act} {w : World} {K : Act → World → Prop} {Q : Exit → Act → World → Prop} (p : Operand) (ho : op.op = .load 24 p) (b : Nat) (hp : a.eval p = .pointer (some ⟨b, 0, none⟩)) (A : Option Addr) (n c : Nat) (hb : Blk w b 24 #[.slice A n c])
    (h : K (a.put op.dst (.slice A n c)) w) : op.wp Try.prog a w K Q := by
  have hc : w.cell? ⟨b, 0, none⟩ = some (.slice A n c) := hb.cell 0
  unfold Oper.wp execOp
  simp only [ho, hp]
  go_simp
  exact h
set_option maxRecDepth 100000 in
theorem wp_storeB {op : Oper} {a : Act} {w : World} {K : Act → World → Prop} {Q : Exit → Act → World → Prop} (p x : Operand) (ho : op.op = .store 24 p x) (b : Nat) (hp : a.eval p = .pointer (some ⟨b, 0, none⟩)) (A : Option Addr) (n c : Nat) (hx : a.eval x = .slice A n c) (u : Value) (hb : Blk w b 24 #[u])
    (h : ∀ w', w'.heap.size = w.heap.size → Blk w' b 24 #[.slice A n c] → w.grownBy w' (some b) → K (a.put op.dst undef) w') : op.wp Try.prog a w K Q := by
  have hk := h (w.setCell ⟨b, 0, none⟩ (.slice A n c)) (by simp) (by have := hb.store 0 (.slice A n c); simpa using this) (grown_setCell _ _ _ _)
  have hc := hb.cell 0
  have hf := hb.frozen 0
  have hc' : w.cell? ⟨b, 0, none⟩ = some u := hc
  unfold Oper.wp execOp
  simp only [ho, hp, hx]
  go_simp
  exact hk
set_option maxRecDepth 100000 in
theorem wp_appB {op : Oper} {a : Act} {w : World} {K : Act → World → Prop} {Q : Exit → Act → World → Prop} (s x : Operand) (ho : op.op = .call { callee := .builtin .append, args := #[s, x], argTypes := #[24, 24] })
    (base : Nat) (A : Option Addr) (n c : Nat) (xs : List Value) (hs : a.eval s = .slice A n c) (hown : w.ownsRow base 5 1 (.slice A n c) n xs) (lo hh : Nat) (A2 : Option Addr) (m c2 : Nat) (news : List Value) (hx : a.eval x = .slice A2 m c2)
    (hl : Lst w lo hh A2 m news) (h1 : ∀ u ∈ news, u.oneCell' = true) (hn : n + m ≤ 10000000) (hbase : base ≤ w.heap.size)
    (h : ∀ A' c' w', n + m ≤ c' → w'.ownsRow base 5 1 (.slice A' (n + m) c') (n + m) (xs ++ news) → Below base w w' → w.grownBy w' (A.map (·.block)) → K (a.put op.dst (.slice A' (n + m) c')) w') : op.wp Try.prog a w K Q := by
  rcases Nat.eq_zero_or_pos m with h0 | h0
  · subst h0
    have hnil : news = [] := List.eq_nil_of_length_eq_zero hl.1
    subst hnil
    obtain ⟨i, hi, hz0, hz1, hz2⟩ := info_parts Try.infoU8
    obtain ⟨A3, c3, h3, hc3⟩ := own_form hown
    injection h3 with h3 _ h4
    subst h3 h4
    have hrun : (Builtin.append_ #[24, 24] op.type #[.slice A n c, .slice A2 0 c2]).run Try.prog w = .ok (.slice A n c) w := by
      cases A <;> cases A2 <;> simp [Builtin.append_, run_underlying Try.underlying24, sizeOf, typeInfo, hi, Builtin.lenOf, Builtin.firstCells, loadCells, loadCellsFrom, storeCells, hc3]
    unfold Oper.wp execOp
    simp only [ho, resolve, invoke, builtin, Sem.run_bind, Sem.run_pure, Result.andThen_ok, List.map_toArray, List.map_cons, List.map_nil, hs, hx, hrun]
    exact h A c w hc3 (by simpa using hown) (Below.refl _ _) (grown_refl _ _)
  · obtain ⟨g, off, rfl, _, _, hc⟩ := hl.2 h0
    obtain ⟨i, hi, hz0, hz1, hz2⟩ := info_parts Try.infoU8
    obtain ⟨v', w', hrun, h2, h3, _, h5⟩ := run_append_own_at (P := Try.prog) w base 24 op.type 5 i _ 1 1 Try.underlying24 hi hz0 hz1 hz2 rfl (by decide) _ n xs hown ⟨g, off, none⟩ m c2 news (by rw [hl.1]; omega) (fun j u hu => by rw [add_plain]; exact hc j u hu) h1 (by unfold maxLen; omega) (by omega) hbase
    have hv : (Value.slice A n c).ownBlock = A.map (·.block) := by cases A <;> rfl
    obtain ⟨A', c', rfl, hc'⟩ := own_form h2
    unfold Oper.wp execOp
    simp only [ho, resolve, invoke, builtin, Sem.run_bind, Sem.run_pure, Result.andThen_ok, List.map_toArray, List.map_cons, List.map_nil, hs, hx, hrun]
    rw [hv] at h3
    exact h A' c' w' hc' h2 (grown_below h3 hbase fun k hk => (hown.lt k (by rw [hv]; exact hk)).1) h3
end Go.Proofs.Ytejmllpffocneaa
