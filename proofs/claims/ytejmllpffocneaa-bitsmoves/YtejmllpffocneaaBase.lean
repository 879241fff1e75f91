/- Plain words and laws, of no program: bytes as cells, a slice of bytes that lies between two block numbers, a block that is known whole, what a slice of bytes is as a string. Nothing is assumed. -/
import Derived.WalkKit
import Derived.WalkLawsBesides
import Derived.Laws.CopyOwn
import Derived.Laws.BytesArg
import Derived.Lib.AppendStr
import Derived.Maps.AppendAt
import Derived.DataReads
import Derived.Lib.SlBytesConst
import Derived.Deep.RegionHeld
namespace Go.Proofs.Ytejmllpffocneaa
open Go.RowKit

theorem hid {p : Prop} (h : p) : Hid p := h

/-- The cells of some bytes. -/
def bs (l : List UInt8) : List Value := l.map fun c => Value.int .u8 (c.toNat : Int)
theorem bs_len (l : List UInt8) : (bs l).length = l.length := by simp [bs]
theorem bs_app (a b : List UInt8) : bs (a ++ b) = bs a ++ bs b := by simp [bs]
theorem bs_nil : bs [] = [] := rfl
theorem bs_cons (c : UInt8) (l : List UInt8) : bs (c :: l) = Value.int .u8 (c.toNat : Int) :: bs l := rfl
theorem bs_one (l : List UInt8) : ∀ u ∈ bs l, u.oneCell' = true := by
  intro u hu
  simp only [bs, List.mem_map] at hu
  obtain ⟨c, _, rfl⟩ := hu
  rfl
theorem bs_get (l : List UInt8) (j : Nat) (h : j < l.length) : (bs l)[j]? = some (.int .u8 (l[j].toNat : Int)) := by
  simp [bs, h]
theorem bs_take (l : List UInt8) (k : Nat) : bs (l.take k) = (bs l).take k := by simp [bs, List.map_take]
theorem bs_drop (l : List UInt8) (k : Nat) : bs (l.drop k) = (bs l).drop k := by simp [bs, List.map_drop]

/-- The slice at A of n bytes holds l; what it holds lies in a block from lo on and below hi. -/
def Bts (w : World) (lo hi : Nat) (A : Option Addr) (n : Nat) (l : List UInt8) : Prop :=
  l.length = n ∧ (0 < n → ∃ g off, A = some ⟨g, off, none⟩ ∧ lo ≤ g ∧ g < hi ∧ ∀ j u, (bs l)[j]? = some u → w.cell? ⟨g, off + j, none⟩ = some u)

section
variable {w w' : World} {lo hi n : Nat} {A : Option Addr} {l : List UInt8}
theorem Bts.nil (w : World) (lo hi : Nat) (A : Option Addr) : Bts w lo hi A 0 [] := ⟨rfl, fun h => absurd h (by omega)⟩
theorem Bts.len (h : Bts w lo hi A n l) : l.length = n := h.1
theorem Bts.keep (h : Bts w lo hi A n l) (hk : ∀ k, lo ≤ k → k < hi → w'.heap[k]? = w.heap[k]?) : Bts w' lo hi A n l :=
  ⟨h.1, fun hn => by
    obtain ⟨g, off, e, h1, h2, hc⟩ := h.2 hn
    exact ⟨g, off, e, h1, h2, fun j u hu => (World.cell?_of_block (a := ⟨g, off + j, none⟩) (hk g h1 h2)).trans (hc j u hu)⟩⟩
theorem Bts.wide {lo' hi' : Nat} (h : Bts w lo hi A n l) (h1 : lo' ≤ lo) (h2 : hi ≤ hi') : Bts w lo' hi' A n l :=
  ⟨h.1, fun hn => by
    obtain ⟨g, off, e, h3, h4, hc⟩ := h.2 hn
    exact ⟨g, off, e, by omega, by omega, hc⟩⟩
theorem Bts.below {B : Nat} (h : Bts w lo hi A n l) (hb : Below B w w') (hB : hi ≤ B) : Bts w' lo hi A n l := h.keep fun k _ h2 => hb.block k (by omega)
theorem Bts.grown {row : Option Nat} (h : Bts w lo hi A n l) (hg : w.grownBy w' row) (hB : hi ≤ w.heap.size) (hr : ∀ g, row = some g → g < lo ∨ hi ≤ g) : Bts w' lo hi A n l :=
  h.keep fun k h1 h2 => hg.block k (by omega) (fun e => by have := hr _ e.symm; omega)
theorem Bts.at_ {k : Nat} (h : Bts w lo hi A n l) (hk : k < n) : ∃ g off, A = some ⟨g, off, none⟩ ∧ lo ≤ g ∧ g < hi ∧ w.cell? ⟨g, off + k, none⟩ = some (.int .u8 ((l[k]'(by rw [h.1]; exact hk)).toNat : Int)) := by
  obtain ⟨g, off, e, h1, h2, hc⟩ := h.2 (by omega)
  exact ⟨g, off, e, h1, h2, hc k _ (bs_get l k (by rw [h.1]; exact hk))⟩
theorem Bts.take (h : Bts w lo hi A n l) {k : Nat} (hk : k ≤ n) : Bts w lo hi A k (l.take k) := by
  refine ⟨by have := h.1; simp; omega, fun hn => ?_⟩
  obtain ⟨g, off, e, h1, h2, hc⟩ := h.2 (by omega)
  refine ⟨g, off, e, h1, h2, fun j u hu => hc j u ?_⟩
  rw [bs_take, List.getElem?_take] at hu
  split at hu
  · exact hu
  · cases hu
theorem Bts.drop {g off : Nat} (h : Bts w lo hi (some ⟨g, off, none⟩) n l) (k : Nat) : Bts w lo hi (some ⟨g, off + k, none⟩) (n - k) (l.drop k) := by
  refine ⟨by have := h.1; simp; omega, fun hn => ?_⟩
  obtain ⟨g', off', e, h1, h2, hc⟩ := h.2 (by omega)
  injection e with e
  injection e with e1 e2
  subst e1; subst e2
  refine ⟨g, off + k, rfl, h1, h2, fun j u hu => ?_⟩
  rw [bs_drop, List.getElem?_drop] at hu
  rw [Nat.add_assoc]
  exact hc _ u hu
theorem Bts.own {base : Nat} {e : TypeId} {c : Nat} (h : w.ownsRow base e 1 (.slice A n c) n (bs l)) : Bts w base w.heap.size A n l := by
  have hl : l.length = n := by have := h.1; rw [bs_len] at this; omega
  refine ⟨hl, fun hn => ?_⟩
  rcases h.2 with ⟨hv, h0⟩ | ⟨g, cap, cur, hv, hb, hg, hnc, hcm, hcs, ht⟩
  · omega
  · injection hv with hA
    subst hA
    refine ⟨g, 0, rfl, hb, (Array.getElem?_eq_some_iff.1 hg).1, fun j u hu => ?_⟩
    have hc := h.cells (g := g) (by rfl) j u hu
    have ha : (⟨g, 0, none⟩ : Addr).add j = ⟨g, 0 + j, none⟩ := by unfold Addr.add; split <;> simp_all
    rw [← ha]
    exact hc
theorem own_form {base : Nat} {e : TypeId} {v : Value} {xs : List Value} (h : w.ownsRow base e 1 v n xs) : ∃ A c, v = .slice A n c ∧ n ≤ c := by
  rcases h.2 with ⟨rfl, rfl⟩ | ⟨g, cap, cur, rfl, _, _, hnc, _⟩
  · exact ⟨none, 0, rfl, Nat.le_refl _⟩
  · exact ⟨_, _, rfl, hnc⟩
end

theorem own_cap {w : World} {base : Nat} {e : TypeId} {A : Option Addr} {n c : Nat} {xs : List Value} (h : w.ownsRow base e 1 (.slice A n c) n xs) : c ≤ maxLen := by
  rcases h.2 with ⟨hv, _⟩ | ⟨g, cap, cur, hv, _, _, _, hm, _⟩
  · injection hv with _ _ h3
    omega
  · injection hv with _ _ h3
    omega

/-- The text of some bytes. -/
def str (l : List UInt8) : ByteArray := ⟨l.toArray⟩
theorem str_data (l : List UInt8) : (str l).data.toList = l := by simp [str]
theorem str_inj {a b : List UInt8} : str a = str b ↔ a = b := ⟨fun h => by have := congrArg (fun s => s.data.toList) h; simpa [str] using this, fun h => by rw [h]⟩
theorem str_size (l : List UInt8) : (str l).size = l.length := by simp [str, ByteArray.size]
theorem str_of (s : ByteArray) : str s.data.toList = s := by simp [str]

theorem str_list (l : List UInt8) : (str l).toList = l := ByteArray.toList_mk l
theorem str_ne {a b : List UInt8} (h : a ≠ b) : ((str a).toList == (str b).toList) = false := by rw [str_list, str_list]; simpa using h
theorem ofNat_toNat (c : UInt8) : UInt8.ofNat ((c.toNat : Int)).toNat = c := by simp

/-- string(x) of a slice of bytes. -/
theorem run_str {P : Program} {w : World} {lo hi n c : Nat} {A : Option Addr} {l : List UInt8} (src dst e : TypeId) (hs : P.underlying src = some (.slice e)) (he : P.underlying e = some (.int .u8)) (hd : P.underlying dst = some .string)
    (h : Bts w lo hi A n l) : (convert src dst (.slice A n c)).run P w = .ok (.string (str l)) w := by
  rcases Nat.eq_zero_or_pos n with h0 | h0
  · subst h0
    have hl : l = [] := List.eq_nil_of_length_eq_zero h.1
    subst hl
    rw [run_convert_bytes_string w src dst e _ 0 c hs he hd]
    cases A <;> simp [Conv.bytesToString, loadCells] <;> rfl
  · obtain ⟨g, off, rfl, _, _, hc⟩ := h.2 h0
    have hr := run_convert_bytes_arg (P := P) w src e hs he g off n c (l.map fun c => (c.toNat : Int)) (by simpa using h.1) (fun i hi => by
      have hil : i < l.length := by rw [h.1]; exact hi
      rw [hc i _ (bs_get l i hil)]
      simp [List.getD, hil]) dst hd
    rw [hr]
    have : strOfNums (l.map fun c => (c.toNat : Int)) = str l := by
      simp [strOfNums, str, List.map_map, Function.comp_def]
    rw [this]

/-- Block g is just the cells cs. -/
def Blk (w : World) (g : Nat) (t : TypeId) (cs : Array Value) : Prop := w.heap[g]? = some (.cells cs t (0, 0))
section
variable {w w' : World} {g : Nat} {t : TypeId} {cs : Array Value}
theorem Blk.lt (h : Blk w g t cs) : g < w.heap.size := by
  rcases Nat.lt_or_ge g w.heap.size with hlt | hge
  · exact hlt
  · unfold Blk at h; rw [Array.getElem?_eq_none hge] at h; cases h
theorem Blk.cell (h : Blk w g t cs) (i : Nat) : w.cell? ⟨g, i, none⟩ = cs[i]? := cell_of_row w g i cs t (0, 0) h
theorem Blk.frozen (h : Blk w g t cs) (i : Nat) : w.frozen? ⟨g, i, none⟩ = false := by
  unfold Blk at h
  simp [World.frozen?, h]
theorem Blk.keep (h : Blk w g t cs) (hk : w'.heap[g]? = w.heap[g]?) : Blk w' g t cs := hk.trans h
theorem Blk.store (h : Blk w g t cs) (i : Nat) (u : Value) : Blk (w.setCell ⟨g, i, none⟩ u) g t (cs.setIfInBounds i u) := by
  unfold Blk at h ⊢
  simp [World.setCell, Array.getElem?_modify, h]
theorem Blk.new (w : World) (t : TypeId) (cs : Array Value) : Blk (w.alloc (.cells cs t)) w.heap.size t cs := heap_alloc_new w _
end

/-- One cell written: nothing but its block turns. -/
theorem grown_setCell (w : World) (g o : Nat) (u : Value) : w.grownBy (w.setCell ⟨g, o, none⟩ u) (some g) :=
  ⟨rfl, rfl, rfl, by simp [World.setCell], fun k _ hne => Below.heap_setCell w _ u k (fun e => hne (by rw [e]))⟩
theorem grown_refl (w : World) (row : Option Nat) : w.grownBy w row := ⟨rfl, rfl, rfl, Nat.le_refl _, fun _ _ _ => rfl⟩
theorem grown_below {w w' : World} {B : Nat} {row : Option Nat} (hg : w.grownBy w' row) (hB : B ≤ w.heap.size) (hr : ∀ k, row = some k → B ≤ k) : Below B w w' := (Below.refl B w).grown hg hB hr

/-- m cells alike. -/
def zeros (m : Nat) (z : Value) : List Value := List.replicate m z
theorem zeros_len (m : Nat) (z : Value) : (zeros m z).length = m := by simp [zeros]

/-- make([]T, n, m), T of one cell: a new block of m zeros. -/
theorem wpList_make_new {P : Program} (w : World) {ops : Array Oper} {rest : List Oper} {o : Oper} {a : Act} {Q : Exit → Act → World → Prop}
    (hg : o.guard = none) (l c : Operand) (t : TypeId) (hop : o.op = Op.makeSlice t l c)
    (e : TypeId) (z : Value) (bytes : Nat) (h1 : P.underlying t = some (.slice e)) (h2 : (P.info? e).map (fun i => (i.zero, i.size, i.bytes)) = some (some z, 1, bytes)) (h5 : z.cells = #[z])
    (L C : Int) (n m : Nat) (hl : a.eval l = .int .i64 L) (hc : a.eval c = .int .i64 C) (hL : L = (n : Int)) (hC : C = (m : Int)) (hnm : n ≤ m) (hm : bytes * m ≤ 281474976710656) (hm2 : m ≤ 9223372036854775807)
    (hK : ∀ w', Hid (w'.heap[w.heap.size]? = some (.cells (zeros m z).toArray e (0, 0))) → w.grownBy w' none → w.heap.size < w'.heap.size → wpList P ops Q rest (a.put o.dst (.slice (some ⟨w.heap.size, 0, none⟩) n m)) w') :
    wpList P ops Q (o :: rest) a w := by
  refine wpList_plain hg fun K hK' => ?_
  obtain ⟨i, hi, hz0, hz1, hz2⟩ := info_parts h2
  subst hL
  subst hC
  have hb : (i.bytes : Int) * (m : Int) ≤ 281474976710656 := by
    have h : ((i.bytes * m : Nat) : Int) ≤ 281474976710656 := by rw [hz2]; omega
    rwa [Int.natCast_mul] at h
  have hrun := run_make (P := P) w t e i z h1 hi hz0 .i64 .i64 n m (by omega) (by omega) hb (by omega)
  rw [Int.toNat_natCast, Int.toNat_natCast, hz1, Nat.mul_one, h5] at hrun
  have hcells : madeCells #[z] m = (zeros m z).toArray := by unfold zeros; rw [← toList_madeCells_one]
  rw [hcells] at hrun
  unfold Oper.wp
  simp [execOp, hop, hl, hc, hrun, Result.andThen]
  refine hK' _ _ ?_
  have := hK _ (heap_alloc_new w _) (World.grownBy_alloc w _ none) (by simp)
  simpa using this

theorem add_plain (g o j : Nat) : (⟨g, o, none⟩ : Addr).add j = ⟨g, o + j, none⟩ := by unfold Addr.add; split <;> simp_all

/-- append(s, u): one cell more behind a row of the call's own; the cell lies in a block of its own first. -/
theorem wpList_app1 {P : Program} (w0 : World) {ops : Array Oper} {rest : List Oper} {o : Oper} {a : Act} {Q : Exit → Act → World → Prop} (hgd : o.guard = none) (s x : Operand) (t t' : TypeId)
    (ho : o.op = .call { callee := .builtin .append, args := #[s, x], argTypes := #[t, t] })
    (base : Nat) (e : TypeId) (z : Value) (bytes : Nat) (ht : P.underlying t = some (.slice e)) (hi : (P.info? e).map (fun i => (i.zero, i.size, i.bytes)) = some (some z, 1, bytes)) (hz : z.cells.size = 1)
    (A : Option Addr) (n c : Nat) (xs : List Value) (hs : a.eval s = .slice A n c) (hown : w0.ownsRow base e 1 (.slice A n c) n xs) (u : Value) (hu : u.oneCell' = true)
    (hx : a.eval x = .slice (some ⟨w0.heap.size, 0, none⟩) 1 1) (hn : (n + 1) * bytes ≤ 140737488355328) (hn2 : n + 1 ≤ maxLen) (hbase : base ≤ w0.heap.size)
    (h : ∀ A' c' w', n + 1 ≤ c' → w'.ownsRow base e 1 (.slice A' (n + 1) c') (n + 1) (xs ++ [u]) → w0.grownBy w' (A.map (·.block)) → Below base w0 w' → base ≤ w'.heap.size → wpList P ops Q rest (a.put o.dst (.slice A' (n + 1) c')) w') :
    wpList P ops Q (o :: rest) a (w0.alloc (.cells #[u] t')) := by
  obtain ⟨i, hi, hz0, hz1, hz2⟩ := info_parts hi
  refine wpList_append_own_at _ hgd s x t ho base e i z 1 bytes ht hi hz0 hz1 hz2 hz (by omega) _ n xs hs (hown.alloc _) _ 1 1 [u] hx rfl (cell_one_new w0 u t') (by simpa using hu) hn2 hn (by simp; omega) ?_
  intro v' w' hown' hgr _ _
  obtain ⟨A', c', rfl, hc'⟩ := own_form hown'
  have hg2 : w0.grownBy w' (A.map (·.block)) := by
    have h1 := World.grownBy_alloc w0 (.cells #[u] t') (A.map (·.block))
    have h2 : (Value.slice A n c).ownBlock = A.map (·.block) := by cases A <;> rfl
    rw [h2] at hgr
    exact h1.trans hgr
  refine h A' c' w' hc' hown' hg2 (grown_below hg2 hbase fun k hk => ?_) (Nat.le_trans hbase hg2.size)
  have h2 : (Value.slice A n c).ownBlock = A.map (·.block) := by cases A <;> rfl
  exact (hown.lt k (by rw [h2]; exact hk)).1

/-- append(s, t...) of a text. -/
theorem wpList_appS {P : Program} (w : World) {ops : Array Oper} {rest : List Oper} {o : Oper} {a : Act} {Q : Exit → Act → World → Prop} (hgd : o.guard = none) (s x : Operand) (t u : TypeId)
    (ho : o.op = .call { callee := .builtin .append, args := #[s, x], argTypes := #[t, u] })
    (base : Nat) (e : TypeId) (ht : P.underlying t = some (.slice e)) (hus : P.underlying u = some .string) (hi : (P.info? e).map (fun i => (i.zero, i.size, i.bytes)) = some (some (.int .u8 0), 1, 1))
    (A : Option Addr) (n c : Nat) (xs : List Value) (hs : a.eval s = .slice A n c) (hown : w.ownsRow base e 1 (.slice A n c) n xs) (b : ByteArray) (hx : a.eval x = .string b)
    (hn : n + b.size ≤ 140737488355328) (hbase : base ≤ w.heap.size)
    (h : ∀ A' c' w', n + b.size ≤ c' → w'.ownsRow base e 1 (.slice A' (n + b.size) c') (n + b.size) (xs ++ bs b.data.toList) → w.grownBy w' (A.map (·.block)) → Below base w w' → base ≤ w'.heap.size → wpList P ops Q rest (a.put o.dst (.slice A' (n + b.size) c')) w') :
    wpList P ops Q (o :: rest) a w := by
  obtain ⟨i, hi, hz0, hz1, hz2⟩ := info_parts hi
  refine Lib.wpList_append_own_string _ hgd s x t u ho base e i ht hus hi hz0 hz1 hz2 _ n xs hs hown b hx (by unfold maxLen; omega) hn hbase ?_
  intro v' w' hown' hgr _
  obtain ⟨A', c', rfl, hc'⟩ := own_form hown'
  have h2 : (Value.slice A n c).ownBlock = A.map (·.block) := by cases A <;> rfl
  rw [h2] at hgr
  refine h A' c' w' hc' hown' hgr (grown_below hgr hbase fun k hk => ?_) (Nat.le_trans hbase hgr.size)
  exact (hown.lt k (by rw [h2]; exact hk)).1

/-- A block of bytes just made. -/
theorem Bts.lit (w : World) (e : TypeId) (l : List UInt8) : Bts (w.alloc (.cells (bs l).toArray e)) w.heap.size (w.heap.size + 1) (some ⟨w.heap.size, 0, none⟩) l.length l := by
  refine ⟨rfl, fun _ => ⟨_, _, rfl, Nat.le_refl _, by omega, fun j u hu => ?_⟩⟩
  rw [Blk.cell (Blk.new w e (bs l).toArray)]
  simpa using hu
/-- The same, of a constant's bytes. -/
theorem Bts.litM (w : World) (e : TypeId) (l : List UInt8) (m : Nat × Nat) : Bts (w.alloc (.cells (bs l).toArray e m)) w.heap.size (w.heap.size + 1) (some ⟨w.heap.size, 0, none⟩) l.length l := by
  refine ⟨rfl, fun _ => ⟨_, _, rfl, Nat.le_refl _, by omega, fun j u hu => ?_⟩⟩
  rw [cell_of_row _ w.heap.size _ (bs l).toArray e m (heap_alloc_new w _)]
  simpa using hu

/-- A slice at A of n cells holds xs, in a block from lo on and below hi. -/
def Lst (w : World) (lo hi : Nat) (A : Option Addr) (n : Nat) (xs : List Value) : Prop :=
  xs.length = n ∧ (0 < n → ∃ g off, A = some ⟨g, off, none⟩ ∧ lo ≤ g ∧ g < hi ∧ ∀ j u, xs[j]? = some u → w.cell? ⟨g, off + j, none⟩ = some u)
section
variable {w w' : World} {lo hi n : Nat} {A : Option Addr} {xs : List Value}
theorem Lst.len (h : Lst w lo hi A n xs) : xs.length = n := h.1
theorem Lst.keep (h : Lst w lo hi A n xs) (hk : ∀ k, lo ≤ k → k < hi → w'.heap[k]? = w.heap[k]?) : Lst w' lo hi A n xs :=
  ⟨h.1, fun hn => by
    obtain ⟨g, off, e, h1, h2, hc⟩ := h.2 hn
    exact ⟨g, off, e, h1, h2, fun j u hu => (World.cell?_of_block (a := ⟨g, off + j, none⟩) (hk g h1 h2)).trans (hc j u hu)⟩⟩
theorem Lst.wide {lo' hi' : Nat} (h : Lst w lo hi A n xs) (h1 : lo' ≤ lo) (h2 : hi ≤ hi') : Lst w lo' hi' A n xs :=
  ⟨h.1, fun hn => by
    obtain ⟨g, off, e, h3, h4, hc⟩ := h.2 hn
    exact ⟨g, off, e, by omega, by omega, hc⟩⟩
theorem Lst.below {B : Nat} (h : Lst w lo hi A n xs) (hb : Below B w w') (hB : hi ≤ B) : Lst w' lo hi A n xs := h.keep fun k _ h2 => hb.block k (by omega)
theorem Lst.at_ {k : Nat} (h : Lst w lo hi A n xs) (hk : k < n) : ∃ g off, A = some ⟨g, off, none⟩ ∧ lo ≤ g ∧ g < hi ∧ w.cell? ⟨g, off + k, none⟩ = some (xs[k]'(by rw [h.1]; exact hk)) := by
  obtain ⟨g, off, e, h1, h2, hc⟩ := h.2 (by omega)
  exact ⟨g, off, e, h1, h2, hc k _ (List.getElem?_eq_getElem (by rw [h.1]; exact hk))⟩
theorem Lst.bytes {l : List UInt8} (h : Lst w lo hi A n (bs l)) : Bts w lo hi A n l := ⟨by have := h.1; rwa [bs_len] at this, h.2⟩
theorem Bts.lst {l : List UInt8} (h : Bts w lo hi A n l) : Lst w lo hi A n (bs l) := ⟨by rw [bs_len]; exact h.1, h.2⟩
end

/-- append(s, t...) of a slice that holds news, behind a row of the call's own; also where t is empty. -/
theorem wpList_appL {P : Program} (w : World) {ops : Array Oper} {rest : List Oper} {o : Oper} {a : Act} {Q : Exit → Act → World → Prop} (hgd : o.guard = none) (s x : Operand) (t : TypeId)
    (ho : o.op = .call { callee := .builtin .append, args := #[s, x], argTypes := #[t, t] })
    (base : Nat) (e : TypeId) (z : Value) (bytes : Nat) (ht : P.underlying t = some (.slice e)) (hi : (P.info? e).map (fun i => (i.zero, i.size, i.bytes)) = some (some z, 1, bytes)) (hz : z.cells.size = 1)
    (A : Option Addr) (n c : Nat) (xs : List Value) (hs : a.eval s = .slice A n c) (hown : w.ownsRow base e 1 (.slice A n c) n xs)
    (lo hh : Nat) (A2 : Option Addr) (m c2 : Nat) (news : List Value) (hx : a.eval x = .slice A2 m c2) (hl : Lst w lo hh A2 m news) (h1 : ∀ u ∈ news, u.oneCell' = true)
    (hn : (n + m) * bytes ≤ 140737488355328) (hn2 : n + m ≤ maxLen) (hbase : base ≤ w.heap.size)
    (h : ∀ A' c' w', n + m ≤ c' → w'.ownsRow base e 1 (.slice A' (n + m) c') (n + m) (xs ++ news) → w.grownBy w' (A.map (·.block)) → Below base w w' → base ≤ w'.heap.size → wpList P ops Q rest (a.put o.dst (.slice A' (n + m) c')) w') :
    wpList P ops Q (o :: rest) a w := by
  obtain ⟨i, hi, hz0, hz1, hz2⟩ := info_parts hi
  rcases Nat.eq_zero_or_pos m with h0 | h0
  · subst h0
    have hnil : news = [] := List.eq_nil_of_length_eq_zero hl.1
    subst hnil
    obtain ⟨A3, c3, h3, hc3⟩ := own_form hown
    injection h3 with h3 _ h4
    subst h3 h4
    have hrun : (Builtin.append_ #[t, t] o.type #[.slice A n c, .slice A2 0 c2]).run P w = .ok (.slice A n c) w := by
      cases A <;> cases A2 <;> simp [Builtin.append_, run_underlying ht, sizeOf, typeInfo, hi, Builtin.lenOf, Builtin.firstCells, loadCells, loadCellsFrom, storeCells, hc3]
    refine wpList_plain hgd fun K hK => ?_
    unfold Oper.wp execOp
    simp only [ho, resolve, invoke, builtin, Sem.run_bind, Sem.run_pure, Result.andThen_ok, List.map_toArray, List.map_cons, List.map_nil, hs, hx, hrun]
    exact hK _ _ (h A c w hc3 (by simpa using hown) (grown_refl _ _) (Below.refl _ _) hbase)
  · obtain ⟨g, off, rfl, _, _, hc⟩ := hl.2 h0
    refine wpList_append_own_at _ hgd s x t ho base e i z 1 bytes ht hi hz0 hz1 hz2 hz (by omega) _ n xs hs hown ⟨g, off, none⟩ m c2 news hx (by rw [hl.1]; omega) (fun j u hu => by rw [add_plain]; exact hc j u hu) h1 hn2 hn hbase ?_
    intro v' w' hown' hgr _ _
    obtain ⟨A', c', rfl, hc'⟩ := own_form hown'
    have h2 : (Value.slice A n c).ownBlock = A.map (·.block) := by cases A <;> rfl
    rw [h2] at hgr
    refine h A' c' w' hc' hown' hgr (grown_below hgr hbase fun k hk => ?_) (Nat.le_trans hbase hgr.size)
    exact (hown.lt k (by rw [h2]; exact hk)).1

/-- A cell of an own row written. -/
theorem own_store {w : World} {base : Nat} {e : TypeId} {g n c k : Nat} {xs : List Value} (h : w.ownsRow base e 1 (.slice (some ⟨g, 0, none⟩) n c) n xs) (u : Value) :
    (w.setCell ⟨g, k, none⟩ u).ownsRow base e 1 (.slice (some ⟨g, 0, none⟩) n c) n (xs.set k u) := by
  refine ⟨by simpa using h.1, ?_⟩
  rcases h.2 with ⟨hv, _⟩ | ⟨g', cap, cur, hv, hb, hg, hnc, hcm, hcs, ht⟩
  · cases hv
  · injection hv with hA _ hcap
    injection hA with hA
    injection hA with hA
    subst hA hcap
    refine .inr ⟨g, c, cur.setIfInBounds k u, rfl, hb, Blk.store hg k u, hnc, hcm, by simpa using hcs, ?_⟩
    rw [← ht]
    simp [Array.toList_setIfInBounds, List.take_set]
theorem own_some {w : World} {base : Nat} {e : TypeId} {A : Option Addr} {n c : Nat} {xs : List Value} (h : w.ownsRow base e 1 (.slice A n c) n xs) (hn : 0 < n) : ∃ g, A = some ⟨g, 0, none⟩ ∧ base ≤ g ∧ g < w.heap.size ∧ ∀ k, w.frozen? ⟨g, k, none⟩ = false := by
  rcases h.2 with ⟨_, h0⟩ | ⟨g, cap, cur, hv, hb, hg, _⟩
  · omega
  · injection hv with hA
    exact ⟨g, hA, hb, (Array.getElem?_eq_some_iff.1 hg).1, fun k => Blk.frozen hg k⟩
theorem bs_set (l : List UInt8) (k : Nat) (b : UInt8) : (bs l).set k (.int .u8 (b.toNat : Int)) = bs (l.set k b) := by simp [bs, List.map_set]
theorem xor255 (b : UInt8) : bits .xor .u8 (b.toNat : Int) 255 = ((255 - b).toNat : Int) := by
  have h1 := u8_xor_nat b.toNat 255 b.toNat_lt (by omega)
  have h2 : b.toNat ^^^ 255 = (255 - b).toNat := by
    have : ∀ n : Fin 256, (n.val ^^^ 255) = 255 - n.val := by decide +kernel
    have h3 := this ⟨b.toNat, b.toNat_lt⟩
    simp at h3
    rw [h3]
    have : b ≤ 255 := by rw [UInt8.le_iff_toNat_le]; have := b.toNat_lt; simp; omega
    rw [UInt8.toNat_sub_of_le _ _ this]
    rfl
  rw [h2] at h1
  simpa using h1
/- Steps of a drawn region by hand, in short. -/
section
variable {P : Program} {ops : Array Oper} {Q : Exit → Act → World → Prop} {md : Region.Mode} {S : World → Prop}
theorem zA {α : Type _} (l : List α) (i : Nat) (a : α) : l.toArray.setIfInBounds i a = (l.set i a).toArray := List.setIfInBounds_toArray l i a
theorem zB {α : Type _} {x : α} {xs : List α} {a : α} : (x :: xs).set 0 a = a :: xs := rfl
theorem zC {α : Type _} {x : α} {xs : List α} {i : Nat} {a : α} : (x :: xs).set (i + 1) a = x :: xs.set i a := rfl
theorem zD {α : Type _} {xs : List α} {i : Nat} : xs.toArray[i]? = xs[i]? := List.getElem?_toArray
theorem zE {α : Type _} {a : α} {i : Nat} {l : List α} : (a :: l)[i + 1]? = l[i]? := List.getElem?_cons_succ
theorem zF {α : Type _} {a : α} {l : List α} : (a :: l)[0]? = some a := List.getElem?_cons_zero
theorem qT (i : Nat) {oi : Oper} (v : Value) {fuel : Nat} {listed : Array Bool} {a : Act} {w : World} (hy : YieldsIf P ops S oi v a) (hS : S w) (h : wpAnyH P md ops Q S fuel (listed.setIfInBounds i true) (a.put oi.dst v) w)
    (hi : ops[i]? = some oi := by (simp only [List.getElem?_toArray, List.getElem?_cons_succ, List.getElem?_cons_zero]; exact rfl)) (hQ : ∀ c a w, Q (.panic c) (a.put oi.dst v) w → Q (.panic c) a w := by exact fun _ _ _ h => h)
    (hs : Region.noSelect ops = true := by kernel_rfl) (hf : Region.free md ops listed i = true := by kernel_rfl) (hr : (Region.ready md ops listed).contains i = true := by kernel_rfl) : wpAnyH P md ops Q S (fuel + 1) listed a w := wpAnyH_take hi hs hf hr hQ hy hS h
theorem qI {o : Oper} {v : Value} {a : Act} (h : ∀ w, S w → (execOp a.eval o).run P w = .ok (.value v) w) (hw : Region.wanted o (yielded ops a.tmps) = true := by rfl) : YieldsIf P ops S o v a := .inl ⟨hw, h⟩
theorem qR (i : Nat) {o : Oper} {fuel : Nat} {listed : Array Bool} {a : Act} {w : World}
    (h : ∀ K' : Act → World → Prop, Shut (∀ a w, S w → (S w → wpAnyH P md ops Q S fuel (listed.setIfInBounds i true) a w) → K' a w) → if Region.wanted o (yielded ops a.tmps) = true then Oper.wp P o a w K' Q else K' (a.put o.dst undef) w)
    (ho : ops[i]? = some o := by (simp only [List.getElem?_toArray, List.getElem?_cons_succ, List.getElem?_cons_zero]; exact rfl)) (hr : Region.ready md ops listed = [i] := by kernel_rfl) : wpAnyH P md ops Q S (fuel + 1) listed a w := wpAnyH_ready hr (by simp) (AllReadyH.cons ho h AllReadyH.nil)
end
end Go.Proofs.Ytejmllpffocneaa
