/- Words for the walks of the laws on vaults: rows of keys of the call's own, blocks that grow beside a vault. -/
import Derived.Test.YtaailoodhaibiaaFrameV
namespace Go.Proofs.Ytaailoodhaibiaa
open Go.RowKit

theorem VOn.grown {w wr : World} {g : Nat} {s : Va} {X : Nat → Prop} (h : VOn w wr g s X) {wr' : World} {row : Option Nat} (hg : wr.grownBy wr' row) (hr : ∀ b, row = some b → X b) (Y : Nat → Prop) (hY : ∀ x, Y x → X x ∨ (wr.heap.size ≤ x ∧ x < wr'.heap.size)) : VOn w wr' g s Y := by
  obtain ⟨F, h1, h2, h3, h4⟩ := h
  refine ⟨F, h1.keep hg.size fun j hj => hg.block j (h1.lt j hj) (fun e => (h4 j (hr j e.symm)).1 hj), h2, h3.grown hg h3.size (fun k hk => (h4 k (hr k hk)).2.2), fun x hx => ?_⟩
  rcases hY x hx with hx | hx
  · exact ⟨(h4 x hx).1, Nat.lt_of_lt_of_le (h4 x hx).2.1 hg.size, (h4 x hx).2.2⟩
  · have := h3.size
    exact ⟨fun e => by have := h1.lt x e; omega, by omega, by omega⟩
/-- Where a row lies behind an append. -/
def Lies (A A' : Option Addr) (n : Nat) : Prop := ∀ d, A'.map (·.block) = some d → A.map (·.block) = some d ∨ d = n
theorem wpList_append_z {ops : Array Oper} {rest : List Oper} {o : Oper} {a : Act} {w : World} {Q : Exit → Act → World → Prop} (hgd : o.guard = none) (t e : TypeId) (z0 : Value) (z by_ : Nat) (ht : Try.prog.underlying t = some (.slice e)) (hi : (Try.prog.info? e).map (fun i => (i.zero, i.size, i.bytes)) = some (some z0, z, by_)) (hz : z0.cells.size = z) (hz1 : 0 < z) (hby : by_ ≤ 100)
    (s x : Operand) (ho : o.op = .call { callee := .builtin .append, args := #[s, x], argTypes := #[t, t] })
    (A : Option Addr) (n c : Nat) (xs : List Value) (hs : a.eval s = .slice A n c) (hown : w.ownsRow 0 e z (.slice A n c) n xs) (b : Nat) (hx : a.eval x = .slice (some ⟨b, 0, none⟩) 1 1)
    (news : List Value) (hl : news.length = z) (hr : w.rangeAt b 0 news) (h1 : ∀ u ∈ news, u.oneCell' = true) (hn : n ≤ 1000000)
    (h : ∀ A' c' w', w'.ownsRow 0 e z (.slice A' (n + 1) c') (n + 1) (xs ++ news) → w.grownBy w' (A.map (·.block)) → Lies A A' w.heap.size → wpList Try.prog ops Q rest (a.put o.dst (.slice A' (n + 1) c')) w') : wpList Try.prog ops Q (o :: rest) a w :=
  wpList_plain hgd fun _ hK => wp_append_z t e z0 z by_ ht hi hz hz1 hby s x ho A n c xs hs hown b hx news hl hr h1 hn fun A' c' w' h1 h2 h3 => hK _ _ (h A' c' w' h1 h2 h3)
/-- The cells of some keys. -/
def kcs (ks : List Ky) : List Value := ks.flatMap Ky.cells
theorem kcs_app (a b : List Ky) : kcs (a ++ b) = kcs a ++ kcs b := by simp [kcs]
theorem kcs_one (k : Ky) : kcs [k] = k.cells := by simp [kcs]
theorem kcs_len (ks : List Ky) : (kcs ks).length = ks.length * 3 := by
  induction ks with
  | nil => rfl
  | cons x r ih =>
    show (x.cells ++ kcs r).length = _
    rw [List.length_append, ih]
    simp [Ky.cells]
    omega
theorem ky_cell (k : Ky) : ∀ u ∈ k.cells, u.oneCell' = true := by
  intro u hu
  simp only [Ky.cells, List.mem_cons, List.not_mem_nil, or_false] at hu
  rcases hu with rfl | rfl | rfl <;> rfl
theorem kcs_at (ks : List Ky) {j : Nat} (hj : j < ks.length) : ∀ t u, ks[j].cells[t]? = some u → (kcs ks)[j * 3 + t]? = some u := by
  intro t u hu
  have hl : (kcs (ks.take j)).length = j * 3 := by
    rw [kcs_len, List.length_take, Nat.min_eq_left (Nat.le_of_lt hj)]
  have ht := (List.getElem?_eq_some_iff.1 hu).1
  have e : kcs ks = kcs (ks.take j) ++ (ks[j].cells ++ kcs (ks.drop (j + 1))) := by
    conv => lhs; rw [show ks = ks.take j ++ (ks[j] :: ks.drop (j + 1)) by simp]
    rw [kcs_app]
    rfl
  rw [e, List.getElem?_append_right (by omega), List.getElem?_append_left (by rw [hl]; simp only [Nat.add_sub_cancel_left]; exact ht), hl, Nat.add_sub_cancel_left]
  exact hu
/-- A row of keys of the call's own. -/
def KRow (w : World) (A : Option Addr) (c : Nat) (ks : List Ky) : Prop := w.ownsRow 0 32 3 (.slice A ks.length c) ks.length (kcs ks)
theorem KRow.keep {w w' : World} {A : Option Addr} {c : Nat} {ks : List Ky} (h : KRow w A c ks) (hk : ∀ b, A.map (·.block) = some b → w'.heap[b]? = w.heap[b]?) : KRow w' A c ks := own_keep h hk
theorem KRow.elem {w : World} {A : Option Addr} {c : Nat} {ks : List Ky} (h : KRow w A c ks) {j : Nat} (hj : j < ks.length) : ∃ b, A = some ⟨b, 0, none⟩ ∧ b < w.heap.size ∧ w.rangeAt b (j * 3) ks[j].cells := by
  obtain ⟨b, hA, hlt, hr⟩ := own_range h (by omega)
  exact ⟨b, hA, hlt, fun t u hu => by
    have := hr (j * 3 + t) u (kcs_at ks hj t u hu)
    rwa [Nat.zero_add] at this⟩
theorem Try.infoK : (Try.prog.info? 32).map (fun i => (i.zero, i.size, i.bytes)) = some (some (.agg #[.int .i64 0, .int .i64 0, .int .i64 0]), 3, 24) := by kernel_rfl
theorem blk_cells {w : World} {b : Nat} {k : Ky} (h : Blk w b 32 #[.int .i64 k.t, .int .i64 k.c, .int .i64 k.e]) : w.cell? ⟨b, 0, none⟩ = some (.int .i64 k.t) ∧ w.cell? ⟨b, 1, none⟩ = some (.int .i64 k.c) ∧ w.cell? ⟨b, 2, none⟩ = some (.int .i64 k.e) :=
  ⟨by simpa using h.cell 0, by simpa using h.cell 1, by simpa using h.cell 2⟩
theorem blk_range {w : World} {b : Nat} {k : Ky} (h : Blk w b 32 #[.int .i64 k.t, .int .i64 k.c, .int .i64 k.e]) : w.rangeAt b 0 k.cells := fun j v hv => by
  rw [h.cell, Nat.zero_add]
  simpa [Ky.cells] using hv
/-- min of a key's numbers. -/
theorem min3 (k : Ky) : ∃ m1 m2 : Int, (if k.c < k.t then k.c else k.t) = m1 ∧ (if k.e < m1 then k.e else m1) = m2 ∧ (m2 < 0 ↔ ¬ k.right) := by
  refine ⟨_, _, rfl, rfl, ?_⟩
  unfold Ky.right
  split
  · split <;> omega
  · split <;> omega
theorem bs_ofNat {j : Nat} (hj : j < 256) : bs [UInt8.ofNat j] = [.int .u8 (j : Int)] := by
  show [Value.int .u8 ((UInt8.ofNat j).toNat : Int)] = _
  have : (UInt8.ofNat j).toNat = j := by simp; omega
  rw [this]
theorem conv_byte (w : World) {j : Nat} (hj : j < 256) : (convert 33 9 (.slice (some ⟨w.heap.size, 0, none⟩) 1 1)).run Try.prog (w.alloc (.cells #[.int .u8 (j : Int)] 5)) = .ok (.string (str [UInt8.ofNat j])) (w.alloc (.cells #[.int .u8 (j : Int)] 5)) := by
  have h := Bts.lit w 5 [UInt8.ofNat j]
  rw [bs_ofNat hj] at h
  exact run_str _ _ _ Try.underlying33 Try.underlying5 Try.underlying9 h
theorem wrap8 {j : Nat} (hj : j < 256) : IntKind.u8.wrap (j : Int) = (j : Int) := by
  simp [IntKind.wrap, IntKind.signed, IntKind.bits]
  omega
end Go.Proofs.Ytaailoodhaibiaa
