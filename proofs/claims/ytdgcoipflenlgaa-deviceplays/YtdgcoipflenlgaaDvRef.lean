/- The document's device, as it lies in memory; its small calls. -/
import Derived.Test.YtdgcoipflenlgaaDvOver
namespace Go.Proofs.Ytdgcoipflenlgaa
open Go.RowKit

/-- The texts of some blocks. -/
def ksc (n : Nat) (K : Bl) : List Value := (List.range n).map fun i => Value.string (str (K i))
theorem ksc_len (n : Nat) (K : Bl) : (ksc n K).length = n := by simp [ksc]
theorem ksc_at (n : Nat) (K : Bl) (i : Nat) (h : i < n) : (ksc n K)[i]? = some (.string (str (K i))) := by simp [ksc, h]
theorem ksc_set (n : Nat) (K : Bl) (i : Nat) (b : List UInt8) : (ksc n K).set i (.string (str b)) = ksc n (upd K i b) := by
  unfold ksc upd
  apply List.ext_getElem
  · simp
  · intro j h1 h2
    simp only [List.getElem_set, List.getElem_map, List.getElem_range]
    split
    · rename_i e; subst e; simp
    · rename_i e
      rw [if_neg fun e' => e e'.symm]
theorem ksc_same (n : Nat) {K K' : Bl} (h : ∀ i, i < n → K i = K' i) : ksc n K = ksc n K' := by
  unfold ksc
  apply List.map_congr_left
  intro i hi
  rw [h i (by simpa using hi)]
/-- The cells of some writes, as the document's device has them. -/
def rc (x : Nat × List UInt8) : List Value := [.int .i64 (x.1 : Int), .string (str x.2)]
def rcs (W : Wr) : List Value := W.flatMap rc
theorem rcs_app (a b : Wr) : rcs (a ++ b) = rcs a ++ rcs b := by simp [rcs]
theorem rcs_one (x : Nat × List UInt8) : rcs [x] = rc x := by simp [rcs]
theorem rcs_len (W : Wr) : (rcs W).length = W.length * 2 := by
  induction W with
  | nil => rfl
  | cons x r ih =>
    show (rc x ++ rcs r).length = _
    rw [List.length_append, ih, List.length_cons]
    show 2 + _ = _
    omega
theorem rc_one (x : Nat × List UInt8) : ∀ u ∈ rc x, u.oneCell' = true := by
  intro u hu
  simp only [rc, List.mem_cons, List.not_mem_nil, or_false] at hu
  rcases hu with rfl | rfl <;> rfl
theorem rcs_oneC (W : Wr) : ∀ u ∈ rcs W, u.oneCell' = true := by
  intro u hu
  simp only [rcs, List.mem_flatMap] at hu
  obtain ⟨x, _, hu⟩ := hu
  exact rc_one x u hu
theorem rcs_at (W : Wr) {j : Nat} (hj : j < W.length) : (rcs W)[j * 2]? = some (.int .i64 (W[j].1 : Int)) ∧ (rcs W)[j * 2 + 1]? = some (.string (str W[j].2)) := by
  have e : rcs W = rcs (W.take j) ++ (rc W[j] ++ rcs (W.drop (j + 1))) := by
    conv => lhs; rw [show W = W.take j ++ (W[j] :: W.drop (j + 1)) by simp]
    rw [rcs_app]
    rfl
  have hl : (rcs (W.take j)).length = j * 2 := by rw [rcs_len]; simp; omega
  constructor
  · rw [e, List.getElem?_append_right (by omega), hl, Nat.sub_self]
    rfl
  · rw [e, List.getElem?_append_right (by omega), hl, show j * 2 + 1 - j * 2 = 1 by omega]
    rfl

/-- The limit as the document's device has it. -/
def rl (s : St) : Int := match s.lim with | none => -1 | some c => (c : Int)
structure RDevAt (w : World) (F : Nat → Prop) (g : Nat) (s : St) (kb kc : Nat) (LA : Option Addr) (lc : Nat) : Prop where
  blk : Blk w g 45 #[.slice (some ⟨kb, 0, none⟩) s.n kc, .slice LA s.W.length lc, .int .i64 (rl s)]
  kept : w.ownsRow 0 9 1 (.slice (some ⟨kb, 0, none⟩) s.n kc) s.n (ksc s.n s.K)
  L : w.ownsRow 0 68 2 (.slice LA s.W.length lc) s.W.length (rcs s.W)
  gk : kb ≠ g
  Fk : F kb
  gl : ∀ b, LA.map (·.block) = some b → b ≠ g ∧ b ≠ kb ∧ F b
  Fg : F g
  F : ∀ j, F j → j < w.heap.size
  ok : s.ok
def RDev (w : World) (F : Nat → Prop) (g : Nat) (s : St) : Prop := ∃ kb kc LA lc, RDevAt w F g s kb kc LA lc
def RLeft (w w' : World) (F : Nat → Prop) (g : Nat) (s : St) : Prop := ∃ F' : Nat → Prop, RDev w' F' g s ∧ Kp F w w' ∧ ∀ j, F' j → F j ∨ w.heap.size ≤ j
theorem RDev.keep {w w' : World} {F : Nat → Prop} {g : Nat} {s : St} (h : RDev w F g s) (hs : w.heap.size ≤ w'.heap.size) (hk : ∀ j, F j → w'.heap[j]? = w.heap[j]?) : RDev w' F g s := by
  obtain ⟨kb, kc, LA, lc, h⟩ := h
  exact ⟨kb, kc, LA, lc, h.blk.keep (hk g h.Fg), own_keep h.kept fun b hb => (by simp at hb; subst hb; exact hk kb h.Fk), own_keep h.L fun b hb => hk b (h.gl b hb).2.2, h.gk, h.Fk, h.gl, h.Fg, fun j hj => Nat.lt_of_lt_of_le (h.F j hj) hs, h.ok⟩
theorem RDev.lt {w : World} {F : Nat → Prop} {g : Nat} {s : St} (h : RDev w F g s) : ∀ j, F j → j < w.heap.size := by
  obtain ⟨kb, kc, LA, lc, h⟩ := h
  exact h.F
theorem RDev.no {w : World} {F : Nat → Prop} {g : Nat} {s : St} (h : RDev w F g s) {b : Nat} (hb : w.heap.size ≤ b) : ¬ F b := fun e => by have := h.lt b e; omega
theorem RDev.bel {w w' : World} {F : Nat → Prop} {g : Nat} {s : St} (h : RDev w F g s) (hb : Below w.heap.size w w') : RDev w' F g s := h.keep hb.size fun j hj => hb.block j (h.lt j hj)
theorem RDev.kp {w w' : World} {F G : Nat → Prop} {g : Nat} {s : St} (h : RDev w F g s) (hk : Kp G w w') (hap : ∀ j, F j → ¬ G j) : RDev w' F g s := h.keep hk.size fun j hj => hk.block j (h.lt j hj) (hap j hj)
theorem RLeft.after {w w1 w2 : World} {F F1 : Nat → Prop} {g : Nat} {s : St} (hk : Kp F w w1) (hF : ∀ j, F1 j → F j ∨ w.heap.size ≤ j) (h : RLeft w1 w2 F1 g s) : RLeft w w2 F g s := by
  obtain ⟨F2, hd, hk2, hF2⟩ := h
  exact ⟨F2, hd, hk.step hk2 hF, fun j hj => by
    rcases hF2 j hj with e | e
    · exact hF j e
    · exact .inr (Nat.le_trans hk.size e)⟩
theorem RDevAt.cells {w : World} {F : Nat → Prop} {g : Nat} {s : St} {kb kc lc : Nat} {LA : Option Addr} (h : RDevAt w F g s kb kc LA lc) :
    w.cell? ⟨g, 0, none⟩ = some (.slice (some ⟨kb, 0, none⟩) s.n kc) ∧ w.cell? ⟨g, 1, none⟩ = some (.slice LA s.W.length lc) ∧ w.cell? ⟨g, 2, none⟩ = some (.int .i64 (rl s)) := by
  have h0 := h.blk.cell 0
  have h1 := h.blk.cell 1
  have h2 := h.blk.cell 2
  simp at h0 h1 h2
  exact ⟨h0, h1, h2⟩
theorem own_cell1 {w : World} {e : TypeId} {kb n c : Nat} {xs : List Value} (h : w.ownsRow 0 e 1 (.slice (some ⟨kb, 0, none⟩) n c) n xs) {i : Nat} {u : Value} (hi : i < n) (hu : xs[i]? = some u) : w.cell? ⟨kb, i, none⟩ = some u ∧ w.frozen? ⟨kb, i, none⟩ = false := by
  rcases h.2 with ⟨hv, _⟩ | ⟨g, cap, cur, hv, _, hg, hnc, _, hcs, ht⟩
  · cases hv
  · injection hv with hA _ hcap
    injection hA with hA
    injection hA with hA
    subst hA hcap
    refine ⟨?_, Blk.frozen hg i⟩
    rw [Blk.cell hg]
    rw [← ht, List.getElem?_take, if_pos (by omega)] at hu
    simpa using hu
theorem own_cells2 {w : World} {LA : Option Addr} {lc : Nat} {W : Wr} (h : w.ownsRow 0 68 2 (.slice LA W.length lc) W.length (rcs W)) {j : Nat} (hj : j < W.length) : ∃ lb, LA = some ⟨lb, 0, none⟩ ∧ lb < w.heap.size ∧ w.cell? ⟨lb, j * 2, none⟩ = some (.int .i64 (W[j].1 : Int)) ∧ w.cell? ⟨lb, j * 2 + 1, none⟩ = some (.string (str W[j].2)) := by
  obtain ⟨lb, hA, hlt, hr⟩ := own_range h (by omega)
  obtain ⟨h1, h2⟩ := rcs_at W hj
  have r1 := hr _ _ h1
  have r2 := hr _ _ h2
  rw [Nat.zero_add] at r1 r2
  exact ⟨lb, hA, hlt, r1, r2⟩

theorem rright_c (w : World) (F : Nat → Prop) (g : Nat) (s : St) (h : RDev w F g s) (i : Int) (l : List UInt8) :
    Calls Try.prog 31 #[.pointer (some ⟨g, 0, none⟩), .int .i64 i, .string (str l)] w fun e w' => e = .returned (.bool (!decide (bad s i l.length))) ∧ w = w' := by
  obtain ⟨kb, kc, LA, lc, h⟩ := h
  obtain ⟨h0, -, -⟩ := h.cells
  clear h
  have hsz : ((str l).size : Int) = (l.length : Int) := by rw [str_size]
  go_enter Try.func31, Try.ntmps31
  by_cases h1 : 0 ≤ i
  · have e1 : decide (0 ≤ i) = true := by simpa using h1
    by_cases h2 : i < (s.n : Int)
    · have e2 : decide (i < (s.n : Int)) = true := by simpa using h2
      by_cases h3 : l.length ≤ 16
      · have e3 : decide (((str l).size : Int) ≤ 16) = true := by rw [hsz]; simp; omega
        have e4 : decide ((str l).size ≤ 16) = true := by rw [str_size]; simpa using h3
        have hb : decide (bad s i l.length) = false := decide_eq_false (by unfold bad; omega)
        rw [hb]
        clear hsz h1 h2 h3 hb
        go_wp2
        go_ret
        exact ⟨rfl, rfl⟩
      · have e3 : decide (((str l).size : Int) ≤ 16) = false := by rw [hsz]; simp; omega
        have e4 : decide ((str l).size ≤ 16) = false := by rw [str_size]; simpa using h3
        have hb : decide (bad s i l.length) = true := decide_eq_true (by unfold bad; omega)
        rw [hb]
        clear hsz h1 h2 h3 hb
        go_wp2
        go_ret
        exact ⟨rfl, rfl⟩
    · have e2 : decide (i < (s.n : Int)) = false := by simpa using h2
      have hb : decide (bad s i l.length) = true := decide_eq_true (by unfold bad; omega)
      rw [hb]
      clear hsz h1 h2 hb
      go_wp2
      go_ret
      exact ⟨rfl, rfl⟩
  · have e1 : decide (0 ≤ i) = false := by simpa using h1
    have hb : decide (bad s i l.length) = true := decide_eq_true (by unfold bad; omega)
    rw [hb]
    clear hsz h1 hb
    go_wp2
    go_ret
    exact ⟨rfl, rfl⟩

/-- The limit's cell written. -/
theorem RDevAt.lim {w : World} {F : Nat → Prop} {g : Nat} {s : St} {kb kc lc : Nat} {LA : Option Addr} (h : RDevAt w F g s kb kc LA lc) (l : Option Nat) (hl : ∀ d, l = some d → d ≤ 9223372036854775807) : RLeft w (w.setCell ⟨g, 2, none⟩ (.int .i64 (rl { s with lim := l }))) F g { s with lim := l } := by
  have hg := grown_setCell w g 2 (.int .i64 (rl { s with lim := l }))
  refine ⟨F, ⟨kb, kc, LA, lc, h.blk.store 2 _, own_keep h.kept fun b hb => ?_, own_keep h.L fun b hb => hg.block b (own_lt h.L b hb) (by simpa using (h.gl b hb).1), h.gk, h.Fk, h.gl, h.Fg, fun j hj => Nat.lt_of_lt_of_le (h.F j hj) hg.size, ⟨h.ok.n1, h.ok.n2, h.ok.K, h.ok.W, hl⟩⟩, Kp.setCell w g 2 _ h.Fg, fun j hj => .inl hj⟩
  simp at hb
  subst hb
  exact hg.block kb (h.F kb h.Fk) (by simpa using h.gk)
theorem rcall_off (w : World) (F : Nat → Prop) (g : Nat) (s : St) (h : RDev w F g s) (ho : s.lim = some 0) :
    Calls Try.prog 32 #[.pointer (some ⟨g, 0, none⟩)] w fun e w' => e = .returned (.int .i64 40) ∧ w = w' := by
  obtain ⟨kb, kc, LA, lc, h⟩ := h
  obtain ⟨-, -, h2⟩ := h.cells
  have hz : rl s = 0 := by unfold rl; rw [ho]; rfl
  rw [hz] at h2
  clear h hz ho
  go_enter Try.func32, Try.ntmps32
  go_wp2
  go_ret
  exact ⟨rfl, rfl⟩
theorem rcall_on (w : World) (F : Nat → Prop) (g : Nat) (s : St) (h : RDev w F g s) (ho : s.lim ≠ some 0) :
    Calls Try.prog 32 #[.pointer (some ⟨g, 0, none⟩)] w fun e w' => e = .returned (.int .i64 0) ∧ RLeft w w' F g s.dec := by
  obtain ⟨kb, kc, LA, lc, h⟩ := h
  obtain ⟨-, -, h2⟩ := h.cells
  have f2 := h.blk.frozen 2
  rcases hl : s.lim with _ | m
  · have hz : rl s = -1 := by unfold rl; rw [hl]
    rw [hz] at h2
    have HE : Hid (s = s.dec) := hid (by unfold St.dec; rw [hl]; cases s; simp_all)
    have HD : Hid (RDev w F g s) := hid ⟨kb, kc, LA, lc, h⟩
    clear h hz ho hl
    go_enter Try.func32, Try.ntmps32
    go_wp2
    go_ret
    exact ⟨rfl, F, by rw [← HE.out]; exact HD.out, Kp.refl _ _, fun j hj => .inl hj⟩
  · have hm : m ≤ 9223372036854775807 := h.ok.lim m hl
    obtain ⟨m, rfl⟩ : ∃ m', m = m' + 1 := ⟨m - 1, by have : m ≠ 0 := fun e => ho (by rw [hl, e]); omega⟩
    have hz : rl s = ((m + 1 : Nat) : Int) := by unfold rl; rw [hl]
    have hL := h.lim (some m) (fun d hd => by injection hd with hd; omega)
    have HL : Hid (RLeft w (w.setCell ⟨g, 2, none⟩ (.int .i64 (m : Int))) F g s.dec) := hid (by
      have e : { s with lim := some m } = s.dec := by unfold St.dec; rw [hl]; simp
      rw [e] at hL
      have e2 : rl s.dec = (m : Int) := by unfold rl St.dec; rw [hl]; simp
      rw [e2] at hL
      exact hL)
    rw [hz] at h2
    have e1 : wrap64 (m : Int) = (m : Int) := by unfold wrap64; omega
    have e2 : ((m + 1 : Nat) : Int) - 1 = (m : Int) := by omega
    have e3 : (((m + 1 : Nat) : Int) == 0) = false := beq_false_of_ne (by omega)
    have e4 : decide (0 < ((m + 1 : Nat) : Int)) = true := decide_eq_true (by omega)
    generalize hmm : ((m + 1 : Nat) : Int) = M at *
    clear h hz ho hl hL hm hmm
    go_enter Try.func32, Try.ntmps32
    go_wp2
    go_ret
    exact ⟨rfl, HL.out⟩
theorem rbeat_off (w : World) (F : Nat → Prop) (g : Nat) (s : St) (h : RDev w F g s) (ho : s.lim = some 0) :
    Calls Try.prog 16 #[.pointer (some ⟨g, 0, none⟩)] w fun e w' => e = .returned (.int .i64 40) ∧ w = w' := by
  have hc := rcall_off w F g s h ho
  clear h ho
  go_enter Try.func16, Try.ntmps16
  go_wp2_with fail
  refine hc.mono ?_
  rintro e w' ⟨rfl, rfl⟩
  go_wp2
  go_ret
  exact ⟨rfl, rfl⟩
theorem rbeat_on (w : World) (F : Nat → Prop) (g : Nat) (s : St) (h : RDev w F g s) (ho : s.lim ≠ some 0) :
    Calls Try.prog 16 #[.pointer (some ⟨g, 0, none⟩)] w fun e w' => e = .returned (.int .i64 0) ∧ RLeft w w' F g s.dec := by
  have hc := rcall_on w F g s h ho
  clear h ho
  go_enter Try.func16, Try.ntmps16
  go_wp2_with fail
  refine hc.mono ?_
  rintro e w' ⟨rfl, hL⟩
  have HL := hid hL
  clear hL
  go_wp2
  go_ret
  exact ⟨rfl, HL.out⟩
theorem rbound_c (w : World) (F : Nat → Prop) (g : Nat) (s : St) (h : RDev w F g s) (i : Int) (hi : i ≤ 9223372036854775807) :
    Calls Try.prog 18 #[.pointer (some ⟨g, 0, none⟩), .int .i64 i] w fun e w' => e = .returned (.tuple #[]) ∧ RLeft w w' F g (s.bound i) := by
  obtain ⟨kb, kc, LA, lc, h⟩ := h
  obtain ⟨-, -, h2⟩ := h.cells
  have f2 := h.blk.frozen 2
  have HL : Hid (RLeft w (w.setCell ⟨g, 2, none⟩ (.int .i64 ((i.toNat : Nat) : Int))) F g (s.bound i)) := hid (h.lim (some i.toNat) (fun d hd => by injection hd with hd; omega))
  clear h hi
  go_enter Try.func18, Try.ntmps18
  by_cases hi : i < 0
  · have hz : ((i.toNat : Nat) : Int) = 0 := by omega
    rw [hz] at HL
    clear hz
    go_wp2
    go_end0
    exact ⟨rfl, HL.out⟩
  · have hz : ((i.toNat : Nat) : Int) = i := by omega
    rw [hz] at HL
    clear hz
    go_wp2
    go_end0
    exact ⟨rfl, HL.out⟩
end Go.Proofs.Ytdgcoipflenlgaa
