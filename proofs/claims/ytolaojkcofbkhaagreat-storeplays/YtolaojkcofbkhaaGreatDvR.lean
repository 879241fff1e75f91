import Derived.Test.YtolaojkcofbkhaaGreatDvA
import Derived.Deep.DeepCutAuto
import Derived.Deep.CutBlock
namespace Go.Proofs.YtolaojkcofbkhaaGreat
set_option maxRecDepth 100000
set_option maxHeartbeats 8000000
open Go.RowKit
def ksc (n : Nat) (K : Bl) : List Value := (List.range n).map fun i => Value.string (str (K i))
theorem ksc_at (n : Nat) (K : Bl) (i : Nat) (h : i < n) : (ksc n K)[i]? = some (.string (str (K i))) := by simp [ksc, h]
theorem ksc_set (n : Nat) (K : Bl) (i : Nat) (b : List UInt8) : (ksc n K).set i (.string (str b)) = ksc n (upd K i b) := by
 unfold ksc upd
 apply List.ext_getElem
 · simp
 · intro j h1 h2
   simp only [List.getElem_set, List.getElem_map, List.getElem_range]
   split
   · rename_i e; subst e; simp
   · rename_i e
     rw [if_neg fun e' => e e'.symm]
def rc (x : Nat × List UInt8) : List Value := [.int .i64 (x.1 : Int), .string (str x.2)]
def rcs (W : Wr) : List Value := W.flatMap rc
theorem rcs_app (a b : Wr) : rcs (a ++ b) = rcs a ++ rcs b := by simp [rcs]
theorem rcs_one (x : Nat × List UInt8) : rcs [x] = rc x := by simp [rcs]
theorem rcs_len (W : Wr) : (rcs W).length = W.length * 2 := by
 induction W with
 | nil => rfl
 | cons x r ih =>
  show (rc x ++ rcs r).length = _
  rw [List.length_append, ih, List.length_cons]
  show 2 + _ = _
  omega
theorem rc_one (x : Nat × List UInt8) : ∀ u ∈ rc x, u.oneCell' = true := by
 intro u hu
 simp only [rc, List.mem_cons, List.not_mem_nil, or_false] at hu
 rcases hu with rfl | rfl <;> rfl
theorem rcs_oneC (W : Wr) : ∀ u ∈ rcs W, u.oneCell' = true := by
 intro u hu
 simp only [rcs, List.mem_flatMap] at hu
 obtain ⟨x, _, hu⟩ := hu
 exact rc_one x u hu
theorem rcs_at (W : Wr) {j : Nat} (hj : j < W.length) : (rcs W)[j * 2]? = some (.int .i64 (W[j].1 : Int)) ∧ (rcs W)[j * 2 + 1]? = some (.string (str W[j].2)) := by
 have e : rcs W = rcs (W.take j) ++ (rc W[j] ++ rcs (W.drop (j + 1))) := by
  conv => lhs; rw [show W = W.take j ++ (W[j] :: W.drop (j + 1)) by simp]
  rw [rcs_app]
  rfl
 have hl : (rcs (W.take j)).length = j * 2 := by rw [rcs_len]; simp; omega
 constructor
 · rw [e, List.getElem?_append_right (by omega), hl, Nat.sub_self]
   rfl
 · rw [e, List.getElem?_append_right (by omega), hl, show j * 2 + 1 - j * 2 = 1 by omega]
   rfl
def rl (s : St) : Int := match s.lim with | none => -1 | some c => (c : Int)
structure RDevAt (w : World) (F : Nat → Prop) (g : Nat) (s : St) (kb kc : Nat) (LA : Option Addr) (lc : Nat) : Prop where
 blk : Blk w g 115 #[.slice (some ⟨kb, 0, none⟩) s.n kc, .slice LA s.W.length lc, .int .i64 (rl s)]
 kept : w.ownsRow 0 9 1 (.slice (some ⟨kb, 0, none⟩) s.n kc) s.n (ksc s.n s.K)
 L : w.ownsRow 0 147 2 (.slice LA s.W.length lc) s.W.length (rcs s.W)
 gk : kb ≠ g
 Fk : F kb
 gl : ∀ b, LA.map (·.block) = some b → b ≠ g ∧ b ≠ kb ∧ F b
 Fg : F g
 F : ∀ j, F j → j < w.heap.size
 ok : s.ok
def RDev (w : World) (F : Nat → Prop) (g : Nat) (s : St) : Prop := ∃ kb kc LA lc, RDevAt w F g s kb kc LA lc
def RLeft (w w' : World) (F : Nat → Prop) (g : Nat) (s : St) : Prop := ∃ F' : Nat → Prop, RDev w' F' g s ∧ Kp F w w' ∧ ∀ j, F' j → F j ∨ w.heap.size ≤ j
theorem RDev.keep {w w' : World} {F : Nat → Prop} {g : Nat} {s : St} (h : RDev w F g s) (hs : w.heap.size ≤ w'.heap.size) (hk : ∀ j, F j → w'.heap[j]? = w.heap[j]?) : RDev w' F g s := by
 obtain ⟨kb, kc, LA, lc, h⟩ := h
 exact ⟨kb, kc, LA, lc, h.blk.keep (hk g h.Fg), own_keep h.kept fun b hb => (by simp at hb; subst hb; exact hk kb h.Fk), own_keep h.L fun b hb => hk b (h.gl b hb).2.2, h.gk, h.Fk, h.gl, h.Fg, fun j hj => Nat.lt_of_lt_of_le (h.F j hj) hs, h.ok⟩
theorem RDev.lt {w : World} {F : Nat → Prop} {g : Nat} {s : St} (h : RDev w F g s) : ∀ j, F j → j < w.heap.size := by
 obtain ⟨kb, kc, LA, lc, h⟩ := h
 exact h.F
theorem RDev.bel {w w' : World} {F : Nat → Prop} {g : Nat} {s : St} (h : RDev w F g s) (hb : Below w.heap.size w w') : RDev w' F g s := h.keep hb.size fun j hj => hb.block j (h.lt j hj)
theorem RLeft.after {w w1 w2 : World} {F F1 : Nat → Prop} {g : Nat} {s : St} (hk : Kp F w w1) (hF : ∀ j, F1 j → F j ∨ w.heap.size ≤ j) (h : RLeft w1 w2 F1 g s) : RLeft w w2 F g s := by
 obtain ⟨F2, hd, hk2, hF2⟩ := h
 exact ⟨F2, hd, hk.step hk2 hF, fun j hj => by
  rcases hF2 j hj with e | e
  · exact hF j e
  · exact .inr (Nat.le_trans hk.size e)⟩
theorem RDevAt.cells {w : World} {F : Nat → Prop} {g : Nat} {s : St} {kb kc lc : Nat} {LA : Option Addr} (h : RDevAt w F g s kb kc LA lc) :
 w.cell? ⟨g, 0, none⟩ = some (.slice (some ⟨kb, 0, none⟩) s.n kc) ∧ w.cell? ⟨g, 1, none⟩ = some (.slice LA s.W.length lc) ∧ w.cell? ⟨g, 2, none⟩ = some (.int .i64 (rl s)) := by
 have h0 := h.blk.cell 0
 have h1 := h.blk.cell 1
 have h2 := h.blk.cell 2
 simp at h0 h1 h2
 exact ⟨h0, h1, h2⟩
theorem own_cell1 {w : World} {e : TypeId} {kb n c : Nat} {xs : List Value} (h : w.ownsRow 0 e 1 (.slice (some ⟨kb, 0, none⟩) n c) n xs) {i : Nat} {u : Value} (hi : i < n) (hu : xs[i]? = some u) : w.cell? ⟨kb, i, none⟩ = some u ∧ w.frozen? ⟨kb, i, none⟩ = false := by
 rcases h.2 with ⟨hv, _⟩ | ⟨g, cap, cur, hv, _, hg, hnc, _, hcs, ht⟩
 · cases hv
 · injection hv with hA _ hcap
   injection hA with hA
   injection hA with hA
   subst hA hcap
   refine ⟨?_, Blk.frozen hg i⟩
   rw [Blk.cell hg]
   rw [← ht, List.getElem?_take, if_pos (by omega)] at hu
   simpa using hu
theorem own_cells2 {w : World} {LA : Option Addr} {lc : Nat} {W : Wr} (h : w.ownsRow 0 147 2 (.slice LA W.length lc) W.length (rcs W)) {j : Nat} (hj : j < W.length) : ∃ lb, LA = some ⟨lb, 0, none⟩ ∧ lb < w.heap.size ∧ w.cell? ⟨lb, j * 2, none⟩ = some (.int .i64 (W[j].1 : Int)) ∧ w.cell? ⟨lb, j * 2 + 1, none⟩ = some (.string (str W[j].2)) := by
 obtain ⟨lb, hA, hlt, hr⟩ := own_range h (by omega)
 obtain ⟨h1, h2⟩ := rcs_at W hj
 have r1 := hr _ _ h1
 have r2 := hr _ _ h2
 rw [Nat.zero_add] at r1 r2
 exact ⟨lb, hA, hlt, r1, r2⟩
theorem rright_c (w : World) (F : Nat → Prop) (g : Nat) (s : St) (h : RDev w F g s) (i : Int) (l : List UInt8) :
 Calls Tryz.prog 64 #[.pointer (some ⟨g, 0, none⟩), .int .i64 i, .string (str l)] w fun e w' => e = .returned (.bool (!decide (bad s i l.length))) ∧ w = w' := by
 obtain ⟨kb, kc, LA, lc, h⟩ := h
 obtain ⟨h0, -, -⟩ := h.cells
 clear h
 have hsz : ((str l).size : Int) = (l.length : Int) := by rw [str_size]
 go_enter Tryz.func64, Tryz.ntmps64
 by_cases h1 : 0 ≤ i
 · have e1 : decide (0 ≤ i) = true := by simpa using h1
   by_cases h2 : i < (s.n : Int)
   · have e2 : decide (i < (s.n : Int)) = true := by simpa using h2
     by_cases h3 : l.length ≤ 16
     · have e3 : decide (((str l).size : Int) ≤ 16) = true := by rw [hsz]; simp; omega
       have e4 : decide ((str l).size ≤ 16) = true := by rw [str_size]; simpa using h3
       have hb : decide (bad s i l.length) = false := decide_eq_false (by unfold bad; omega)
       rw [hb]
       clear hsz h1 h2 h3 hb
       go_wp2
       go_ret
       exact ⟨rfl, rfl⟩
     · have e3 : decide (((str l).size : Int) ≤ 16) = false := by rw [hsz]; simp; omega
       have e4 : decide ((str l).size ≤ 16) = false := by rw [str_size]; simpa using h3
       have hb : decide (bad s i l.length) = true := decide_eq_true (by unfold bad; omega)
       rw [hb]
       clear hsz h1 h2 h3 hb
       go_wp2
       go_ret
       exact ⟨rfl, rfl⟩
   · have e2 : decide (i < (s.n : Int)) = false := by simpa using h2
     have hb : decide (bad s i l.length) = true := decide_eq_true (by unfold bad; omega)
     rw [hb]
     clear hsz h1 h2 hb
     go_wp2
     go_ret
     exact ⟨rfl, rfl⟩
 · have e1 : decide (0 ≤ i) = false := by simpa using h1
   have hb : decide (bad s i l.length) = true := decide_eq_true (by unfold bad; omega)
   rw [hb]
   clear hsz h1 hb
   go_wp2
   go_ret
   exact ⟨rfl, rfl⟩
theorem RDevAt.lim {w : World} {F : Nat → Prop} {g : Nat} {s : St} {kb kc lc : Nat} {LA : Option Addr} (h : RDevAt w F g s kb kc LA lc) (l : Option Nat) (hl : ∀ d, l = some d → d ≤ 9223372036854775807) : RLeft w (w.setCell ⟨g, 2, none⟩ (.int .i64 (rl { s with lim := l }))) F g { s with lim := l } := by
 have hg := grown_setCell w g 2 (.int .i64 (rl { s with lim := l }))
 refine ⟨F, ⟨kb, kc, LA, lc, h.blk.store 2 _, own_keep h.kept fun b hb => ?_, own_keep h.L fun b hb => hg.block b (own_lt h.L b hb) (by simpa using (h.gl b hb).1), h.gk, h.Fk, h.gl, h.Fg, fun j hj => Nat.lt_of_lt_of_le (h.F j hj) hg.size, ⟨h.ok.n1, h.ok.n2, h.ok.K, h.ok.W, hl⟩⟩, Kp.setCell w g 2 _ h.Fg, fun j hj => .inl hj⟩
 simp at hb
 subst hb
 exact hg.block kb (h.F kb h.Fk) (by simpa using h.gk)
theorem rcall_off (w : World) (F : Nat → Prop) (g : Nat) (s : St) (h : RDev w F g s) (ho : s.lim = some 0) :
 Calls Tryz.prog 132 #[.pointer (some ⟨g, 0, none⟩)] w fun e w' => e = .returned (.int .i64 40) ∧ w = w' := by
 obtain ⟨kb, kc, LA, lc, h⟩ := h
 obtain ⟨-, -, h2⟩ := h.cells
 have hz : rl s = 0 := by unfold rl; rw [ho]; rfl
 rw [hz] at h2
 clear h hz ho
 go_enter Tryz.func132, Tryz.ntmps132
 go_wp2
 go_ret
 exact ⟨rfl, rfl⟩
theorem rcall_on (w : World) (F : Nat → Prop) (g : Nat) (s : St) (h : RDev w F g s) (ho : s.lim ≠ some 0) :
 Calls Tryz.prog 132 #[.pointer (some ⟨g, 0, none⟩)] w fun e w' => e = .returned (.int .i64 0) ∧ RLeft w w' F g s.dec := by
 obtain ⟨kb, kc, LA, lc, h⟩ := h
 obtain ⟨-, -, h2⟩ := h.cells
 have f2 := h.blk.frozen 2
 rcases hl : s.lim with _ | m
 · have hz : rl s = -1 := by unfold rl; rw [hl]
   rw [hz] at h2
   have HE : Hid (s = s.dec) := hid (by unfold St.dec; rw [hl]; cases s; simp_all)
   have HD : Hid (RDev w F g s) := hid ⟨kb, kc, LA, lc, h⟩
   clear h hz ho hl
   go_enter Tryz.func132, Tryz.ntmps132
   go_wp2
   go_ret
   exact ⟨rfl, F, by rw [← HE.out]; exact HD.out, Kp.refl _ _, fun j hj => .inl hj⟩
 · have hm : m ≤ 9223372036854775807 := h.ok.lim m hl
   obtain ⟨m, rfl⟩ : ∃ m', m = m' + 1 := ⟨m - 1, by have : m ≠ 0 := fun e => ho (by rw [hl, e]); omega⟩
   have hz : rl s = ((m + 1 : Nat) : Int) := by unfold rl; rw [hl]
   have hL := h.lim (some m) (fun d hd => by injection hd with hd; omega)
   have HL : Hid (RLeft w (w.setCell ⟨g, 2, none⟩ (.int .i64 (m : Int))) F g s.dec) := hid (by
    have e : { s with lim := some m } = s.dec := by unfold St.dec; rw [hl]; simp
    rw [e] at hL
    have e2 : rl s.dec = (m : Int) := by unfold rl St.dec; rw [hl]; simp
    rw [e2] at hL
    exact hL)
   rw [hz] at h2
   have e1 : wrap64 (m : Int) = (m : Int) := by unfold wrap64; omega
   have e2 : ((m + 1 : Nat) : Int) - 1 = (m : Int) := by omega
   have e3 : (((m + 1 : Nat) : Int) == 0) = false := beq_false_of_ne (by omega)
   have e4 : decide (0 < ((m + 1 : Nat) : Int)) = true := decide_eq_true (by omega)
   generalize hmm : ((m + 1 : Nat) : Int) = M at *
   clear h hz ho hl hL hm hmm
   go_enter Tryz.func132, Tryz.ntmps132
   go_wp2
   go_ret
   exact ⟨rfl, HL.out⟩
theorem rbeat_off (w : World) (F : Nat → Prop) (g : Nat) (s : St) (h : RDev w F g s) (ho : s.lim = some 0) :
 Calls Tryz.prog 102 #[.pointer (some ⟨g, 0, none⟩)] w fun e w' => e = .returned (.int .i64 40) ∧ w = w' := by
 have hc := rcall_off w F g s h ho
 clear h ho
 go_enter Tryz.func102, Tryz.ntmps102
 go_wp2_with fail
 refine hc.mono ?_
 rintro e w' ⟨rfl, rfl⟩
 go_wp2
 go_ret
 exact ⟨rfl, rfl⟩
theorem rbeat_on (w : World) (F : Nat → Prop) (g : Nat) (s : St) (h : RDev w F g s) (ho : s.lim ≠ some 0) :
 Calls Tryz.prog 102 #[.pointer (some ⟨g, 0, none⟩)] w fun e w' => e = .returned (.int .i64 0) ∧ RLeft w w' F g s.dec := by
 have hc := rcall_on w F g s h ho
 clear h ho
 go_enter Tryz.func102, Tryz.ntmps102
 go_wp2_with fail
 refine hc.mono ?_
 rintro e w' ⟨rfl, hL⟩
 have HL := hid hL
 clear hL
 go_wp2
 go_ret
 exact ⟨rfl, HL.out⟩
theorem rbound_c (w : World) (F : Nat → Prop) (g : Nat) (s : St) (h : RDev w F g s) (i : Int) (hi : i ≤ 9223372036854775807) :
 Calls Tryz.prog 21 #[.pointer (some ⟨g, 0, none⟩), .int .i64 i] w fun e w' => e = .returned (.tuple #[]) ∧ RLeft w w' F g (s.bound i) := by
 obtain ⟨kb, kc, LA, lc, h⟩ := h
 obtain ⟨-, -, h2⟩ := h.cells
 have f2 := h.blk.frozen 2
 have HL : Hid (RLeft w (w.setCell ⟨g, 2, none⟩ (.int .i64 ((i.toNat : Nat) : Int))) F g (s.bound i)) := hid (h.lim (some i.toNat) (fun d hd => by injection hd with hd; omega))
 clear h hi
 go_enter Tryz.func21, Tryz.ntmps21
 by_cases hi : i < 0
 · have hz : ((i.toNat : Nat) : Int) = 0 := by omega
   rw [hz] at HL
   clear hz
   go_wp2
   go_end0
   exact ⟨rfl, HL.out⟩
 · have hz : ((i.toNat : Nat) : Int) = i := by omega
   rw [hz] at HL
   clear hz
   go_wp2
   go_end0
   exact ⟨rfl, HL.out⟩
theorem app_last (W : Wr) (K : Bl) (i j : Nat) (hj : j < W.length) (hi : W[j].1 = i) (hN : ∀ t, ∀ ht : t < W.length, j + 1 ≤ t → W[t].1 ≠ i) : app W K i = W[j].2 := by
 have e : W = W.take j ++ ([W[j]] ++ W.drop (j + 1)) := by simp
 conv => lhs; rw [e]
 rw [app_append, app_append]
 rw [app_out _ _ i (fun x hx => ?_)]
 · show upd _ W[j].1 W[j].2 i = _
   rw [hi, upd_same]
 · obtain ⟨t, ht, he⟩ := List.getElem_of_mem hx
   rw [← he, List.getElem_drop]
   simp at ht
   exact hN _ (by omega) (by omega)
theorem rread_bad (w : World) (F : Nat → Prop) (g : Nat) (s : St) (h : RDev w F g s) (i : Int) (hb : bad s i 0) :
 Calls Tryz.prog 25 #[.pointer (some ⟨g, 0, none⟩), .int .i64 i] w fun e w' => e = .returned (.tuple #[.string (str []), .int .i64 2]) ∧ w = w' := by
 have hr := rright_c w F g s h i []
 rw [show decide (bad s i ([] : List UInt8).length) = true from decide_eq_true hb] at hr
 clear h hb
 go_enter Tryz.func25, Tryz.ntmps25
 go_wp2_with fail
 refine hr.mono ?_
 rintro e w' ⟨rfl, rfl⟩
 go_wp2
 go_ret2
 exact ⟨rfl, rfl⟩
theorem rread_off (w : World) (F : Nat → Prop) (g : Nat) (s : St) (h : RDev w F g s) (i : Int) (hb : ¬ bad s i 0) (ho : s.lim = some 0) :
 Calls Tryz.prog 25 #[.pointer (some ⟨g, 0, none⟩), .int .i64 i] w fun e w' => e = .returned (.tuple #[.string (str []), .int .i64 40]) ∧ w = w' := by
 have hr := rright_c w F g s h i []
 rw [show decide (bad s i ([] : List UInt8).length) = false from decide_eq_false hb] at hr
 obtain ⟨kb, kc, LA, lc, h⟩ := h
 obtain ⟨-, -, h2⟩ := h.cells
 have hz : rl s = 0 := by unfold rl; rw [ho]; rfl
 rw [hz] at h2
 clear h hb hz ho
 go_enter Tryz.func25, Tryz.ntmps25
 go_wp2_with fail
 refine hr.mono ?_
 rintro e w' ⟨rfl, rfl⟩
 go_wp2
 go_ret2
 exact ⟨rfl, rfl⟩
theorem rread_c (w : World) (F : Nat → Prop) (g : Nat) (s : St) (h : RDev w F g s) (i : Nat) (hi : i < s.n) (ho : s.lim ≠ some 0) (hW : s.W.length ≤ 1000000) :
 Calls Tryz.prog 25 #[.pointer (some ⟨g, 0, none⟩), .int .i64 (i : Int)] w fun e w' => e = .returned (.tuple #[.string (str (app s.W s.K i)), .int .i64 0]) ∧ w = w' := by
 have hr := rright_c w F g s h i []
 rw [show decide (bad s i ([] : List UInt8).length) = false from decide_eq_false (by unfold bad; simp; omega)] at hr
 obtain ⟨kb, kc, LA, lc, h⟩ := h
 obtain ⟨h0, h1, h2⟩ := h.cells
 have hz : (rl s == 0) = false := by
  unfold rl
  rcases hl : s.lim with _ | c
  · rfl
  · exact beq_false_of_ne (by intro e; exact ho (by rw [hl]; congr 1; simpa using e))
 have hk := (own_cell1 h.kept hi (ksc_at s.n s.K i hi)).1
 have HO := hid h.L
 have i1 : (0 : Int) ≤ (i : Int) := by omega
 have i2 : (i : Int) < (s.n : Int) := by omega
 have HW := hid hW
 have m1 : wrap64 ((s.W.length : Int) - 1) = (s.W.length : Int) - 1 := by unfold wrap64; omega
 generalize rl s = R at *
 clear h hi ho hW
 go_enter Tryz.func25, Tryz.ntmps25
 go_wp2_with fail
 refine hr.mono ?_
 rintro e w' ⟨rfl, rfl⟩
 clear hr
 go_wp2_with fail
 rw [m1]
 generalize hmv : (s.W.length : Int) - 1 = mv at *
 have HMV := hid hmv
 clear hmv m1
 go_loopw [6] (fun iv wr => ∃ j : Nat, iv = .int .i64 ((j : Int) - 1) ∧ Hid (j ≤ s.W.length) ∧ Hid (∀ t, ∀ ht : t < s.W.length, j ≤ t → s.W[t].1 ≠ i) ∧ w = wr) (fun iv _ => ((intOf iv) + 1).toNat)
 case atStart => exact ⟨s.W.length, by rw [HMV.out], hid (nl _), hid (fun t ht h => absurd ht (by omega)), rfl⟩
 case round =>
  obtain ⟨j, rfl, hj, hN, rfl⟩ := hrel
  clear HMV
  rcases j with _ | j
  · rw [show ((0 : Nat) : Int) - 1 = -1 from rfl]
    have HE : Hid (app s.W s.K i = s.K i) := hid (app_out _ _ _ fun x hx => by
     obtain ⟨t, ht, he⟩ := List.getElem_of_mem hx
     rw [← he]
     exact hN.out t ht (Nat.zero_le _))
    clear hj hN
    go_wp2
    go_ret2
    exact ⟨by rw [HE.out]; rfl, rfl⟩
  · obtain ⟨lb, hA, -, c0, c1⟩ := own_cells2 HO.out (j := j) hj.out
    subst hA
    have hjl : j < s.W.length := hj.out
    rw [show ((j + 1 : Nat) : Int) - 1 = (j : Int) by omega]
    have j1 : (0 : Int) ≤ (j : Int) := by omega
    have j2 : (j : Int) < (s.W.length : Int) := by omega
    have wj : wrap64 ((j : Int) - 1) = (j : Int) - 1 := by have := HW.out; unfold wrap64; omega
    by_cases hx : s.W[j].1 = i
    · have HE : Hid (app s.W s.K i = s.W[j].2) := hid (app_last _ _ _ j hjl hx hN.out)
      rw [hx] at c0
      have e1 : ((i : Int) == (i : Int)) = true := by simp
      generalize s.W[j].2 = bb at *
      clear hN hx
      go_wp2
      go_ret2
      exact ⟨by rw [HE.out]; rfl, rfl⟩
    · have e1 : ((s.W[j].1 : Int) == (i : Int)) = false := beq_false_of_ne (by omega)
      have HN : Hid (∀ t, ∀ ht : t < s.W.length, j ≤ t → s.W[t].1 ≠ i) := hid (fun t ht h => by
       rcases Nat.lt_or_ge j t with h1 | h1
       · exact hN.out t ht h1
       · have : t = j := by omega
         subst this; exact hx)
      generalize s.W[j].1 = xx at *
      clear hN hx
      go_wp2
      exact ⟨⟨j, congrArg (Value.int .i64) (by first | exact wj | omega), hid (by omega), HN, by first | rfl | trivial⟩, by (try rw [wj]); simp [intOf] <;> omega⟩
theorem Tryz.infoR : (Tryz.prog.info? 147).map (fun i => (i.zero, i.size, i.bytes)) = some (some (.agg #[.int .i64 0, .string ⟨#[]⟩]), 2, 24) := by kernel_rfl
def Grew2 (w w' : World) (A A' : Option Addr) (n c : Nat) (xs : List Value) : Prop := w'.ownsRow 0 147 2 (.slice A' n c) n xs ∧ w.grownBy w' (A.map (·.block)) ∧ (∀ d, A'.map (·.block) = some d → A.map (·.block) = some d ∨ d = w.heap.size)
theorem wpList_app2 (w : World) {ops : Array Oper} {rest : List Oper} {o : Oper} {a : Act} {Q : Exit → Act → World → Prop} (hgd : o.guard = none) (s x : Operand)
 (ho : o.op = .call { callee := .builtin .append, args := #[s, x], argTypes := #[113, 113] })
 (A : Option Addr) (n c : Nat) (xs : List Value) (hs : a.eval s = .slice A n c) (hown : w.ownsRow 0 147 2 (.slice A n c) n xs)
 (A2 : Option Addr) (m c2 : Nat) (news : List Value) (hx : a.eval x = .slice A2 m c2) (hl : news.length = m * 2) (hr : 0 < m → ∃ b, A2 = some ⟨b, 0, none⟩ ∧ w.rangeAt b 0 news) (h1 : ∀ u ∈ news, u.oneCell' = true) (hn : n + m ≤ 1000000)
 (h : ∀ A' c' w', Grew2 w w' A A' (n + m) c' (xs ++ news) → wpList Tryz.prog ops Q rest (a.put o.dst (.slice A' (n + m) c')) w') :
 wpList Tryz.prog ops Q (o :: rest) a w := by
 obtain ⟨i, hi, hz0, hz1, hz2⟩ := info_parts Tryz.infoR
 have hv : (Value.slice A n c).ownBlock = A.map (·.block) := by cases A <;> rfl
 rcases Nat.eq_zero_or_pos m with h0 | h0
 · subst h0
   have hnil : news = [] := List.eq_nil_of_length_eq_zero (by omega)
   subst hnil
   have hc3 : n ≤ c := by
    rcases hown.2 with ⟨hv', h0⟩ | ⟨g, cap, cur, hv', _, _, hnc, _⟩
    · injection hv' with _ _ h5; omega
    · injection hv' with _ _ h5; omega
   have hrun : (Builtin.append_ #[113, 113] o.type #[.slice A n c, .slice A2 0 c2]).run Tryz.prog w = .ok (.slice A n c) w := by
    cases A <;> cases A2 <;> simp [Builtin.append_, run_underlying Tryz.underlying113, sizeOf, typeInfo, hi, Builtin.lenOf, Builtin.firstCells, loadCells, loadCellsFrom, storeCells, hc3]
   refine wpList_plain hgd fun K hK => ?_
   unfold Oper.wp execOp
   simp only [ho, resolve, invoke, builtin, Sem.run_bind, Sem.run_pure, Result.andThen_ok, List.map_toArray, List.map_cons, List.map_nil, hs, hx, hrun]
   exact hK _ _ (h A c w ⟨by simpa using hown, grown_refl _ _, fun d hd => .inl hd⟩)
 · obtain ⟨b, rfl, hrr⟩ := hr h0
   refine wpList_append_own_at _ hgd s x 113 ho 0 147 i _ 2 24 Tryz.underlying113 hi hz0 hz1 hz2 rfl (by decide) _ n xs hs hown ⟨b, 0, none⟩ m c2 news hx hl (fun j u hu => by rw [add_plain]; exact hrr j u hu) h1 (by unfold maxLen; omega) (by omega) (Nat.zero_le _) ?_
   intro v' w' hown' hgr _ h5
   obtain ⟨A', c', rfl⟩ : ∃ A' c', v' = .slice A' (n + m) c' := by
    rcases hown'.2 with ⟨_, h0⟩ | ⟨g, cap, cur, hv', _⟩
    · omega
    · exact ⟨_, _, hv'⟩
   have hv2 : (Value.slice A' (n + m) c').ownBlock = A'.map (·.block) := by cases A' <;> rfl
   rw [hv] at hgr h5
   rw [hv2] at h5
   exact h A' c' w' ⟨hown', hgr, fun d hd => by
    rcases h5 with h5 | h5
    · exact .inl (h5 ▸ hd)
    · rw [h5] at hd; injection hd with hd; exact .inr hd.symm⟩
theorem rwrite_bad (w : World) (F : Nat → Prop) (g : Nat) (s : St) (h : RDev w F g s) (i : Int) (l : List UInt8) (hb : bad s i l.length) :
 Calls Tryz.prog 99 #[.pointer (some ⟨g, 0, none⟩), .int .i64 i, .string (str l)] w fun e w' => e = .returned (.int .i64 2) ∧ w = w' := by
 have hr := rright_c w F g s h i l
 rw [show decide (bad s i l.length) = true from decide_eq_true hb] at hr
 clear h hb
 go_enter Tryz.func99, Tryz.ntmps99
 go_wp2_with fail
 refine hr.mono ?_
 rintro e w' ⟨rfl, rfl⟩
 go_wp2
 go_ret
 exact ⟨rfl, rfl⟩
theorem rwrite_off (w : World) (F : Nat → Prop) (g : Nat) (s : St) (h : RDev w F g s) (i : Int) (l : List UInt8) (hb : ¬ bad s i l.length) (ho : s.lim = some 0) :
 Calls Tryz.prog 99 #[.pointer (some ⟨g, 0, none⟩), .int .i64 i, .string (str l)] w fun e w' => e = .returned (.int .i64 40) ∧ w = w' := by
 have hr := rright_c w F g s h i l
 rw [show decide (bad s i l.length) = false from decide_eq_false hb] at hr
 have hc := rcall_off w F g s h ho
 clear h hb ho
 go_enter Tryz.func99, Tryz.ntmps99
 go_wp2_with fail
 refine hr.mono ?_
 rintro e w' ⟨rfl, rfl⟩
 go_wp2_with fail
 refine hc.mono ?_
 rintro e w' ⟨rfl, rfl⟩
 go_wp2
 go_ret
 exact ⟨rfl, rfl⟩
theorem RDevAt.setL {w w7 : World} {F : Nat → Prop} {g : Nat} {s : St} {kb kc lc : Nat} {LA : Option Addr} (h : RDevAt w F g s kb kc LA lc) (W : Wr) (hW : ∀ x ∈ W, x.1 < s.n ∧ x.2.length = 16) {A : Option Addr} {c : Nat}
 (ho : w7.ownsRow 0 147 2 (.slice A W.length c) W.length (rcs W)) (hb : Below w.heap.size w w7) (hA : ∀ b, A.map (·.block) = some b → w.heap.size ≤ b) :
 RLeft w (w7.setCell ⟨g, 1, none⟩ (.slice A W.length c)) F g { s with W := W } := by
 have hg := grown_setCell w7 g 1 (.slice A W.length c)
 have lt : ∀ j, F j → j < w7.heap.size := fun j hj => Nat.lt_of_lt_of_le (h.F j hj) hb.size
 have nb : ∀ b, A.map (·.block) = some b → b ≠ g ∧ b ≠ kb := fun b hb' => by
  have h1 := hA b hb'
  have h2 := h.F g h.Fg
  have h3 := h.F kb h.Fk
  omega
 refine ⟨fun j => F j ∨ (w.heap.size ≤ j ∧ j < w7.heap.size), ⟨kb, kc, A, c, ?_, ?_, ?_, h.gk, .inl h.Fk, fun b hb' => ⟨(nb b hb').1, (nb b hb').2, .inr ⟨hA b hb', own_lt ho b hb'⟩⟩, .inl h.Fg, fun j hj => ?_, ⟨h.ok.n1, h.ok.n2, h.ok.K, hW, h.ok.lim⟩⟩, ?_, fun j hj => ?_⟩
 · exact (h.blk.keep (hb.block g (h.F g h.Fg))).store 1 _
 · have k1 := own_keep (w' := w7) h.kept fun b hb' => (by simp at hb'; subst hb'; exact hb.block kb (h.F kb h.Fk))
   exact own_keep k1 fun b hb' => (by simp at hb'; subst hb'; exact hg.block kb (lt kb h.Fk) (by simpa using h.gk))
 · exact own_keep ho fun b hb' => hg.block b (own_lt ho b hb') (by simpa using (nb b hb').1)
 · have := hg.size
   rcases hj with e | e
   · have := lt j e; omega
   · omega
 · exact (Kp.ofBelow hb).trans (Kp.setCell w7 g 1 _ h.Fg)
 · rcases hj with e | e
   · exact .inl e
   · exact .inr e.1
theorem rwrite_c (w : World) (F : Nat → Prop) (g : Nat) (s : St) (h : RDev w F g s) (i : Nat) (hi : i < s.n) (l : List UInt8) (hl : l.length ≤ 16) (ho : s.lim ≠ some 0) (hW : s.W.length ≤ 100000) :
 Calls Tryz.prog 99 #[.pointer (some ⟨g, 0, none⟩), .int .i64 (i : Int), .string (str l)] w fun e w' => e = .returned (.int .i64 0) ∧ RLeft w w' F g (s.put i l).dec := by
 have hr := rright_c w F g s h i l
 rw [show decide (bad s i l.length) = false from decide_eq_false (by unfold bad; omega)] at hr
 have hc := rcall_on w F g s h ho
 have HI : Hid (i < s.dec.n) := hid hi
 have HL := hid hl
 have HW : Hid (s.dec.W.length ≤ 100000) := hid hW
 have HE : Hid ((s.put i l).dec = s.dec.put i l) := hid rfl
 rw [HE.out]
 generalize s.dec = s1 at *
 clear h hi hl ho hW HE
 go_enter Tryz.func99, Tryz.ntmps99
 go_wp2_with fail
 refine hr.mono ?_
 rintro e w' ⟨rfl, rfl⟩
 go_wp2_with fail
 refine hc.mono ?_
 rintro e w1 ⟨rfl, F1, ⟨kb, kc, LA, lc, hd⟩, hk1, hF1⟩
 obtain ⟨-, x1, -⟩ := hd.cells
 have HD := hid hd
 have HK1 := hid hk1
 have HF1 := hid hF1
 clear hr hc hk1 hF1 hd
 have O0 : Hid ((w1.alloc (.cells #[] 147)).ownsRow 0 147 2 (.slice (some ⟨w1.heap.size, 0, none⟩) 0 0) 0 []) := hid ⟨rfl, .inr ⟨w1.heap.size, 0, #[], rfl, Nat.zero_le _, heap_alloc_new w1 _, nl _, Nat.zero_le _, rfl, rfl⟩⟩
 have B0 : Hid (Below w1.heap.size w1 (w1.alloc (.cells #[] 147))) := hid ((Below.refl _ _).alloc (nl _) _)
 have y1 : (w1.alloc (.cells #[] 147)).cell? ⟨g, 1, none⟩ = some (.slice LA s1.W.length lc) := (World.cell?_of_block (B0.out.block g (HD.out.F g HD.out.Fg))).trans x1
 have hs0 : (w1.alloc (.cells #[] 147)).heap.size = w1.heap.size + 1 := by simp
 have HSR : Hid (0 < s1.W.length → ∃ b, LA = some ⟨b, 0, none⟩ ∧ (w1.alloc (.cells #[] 147)).rangeAt b 0 (rcs s1.W)) := hid (fun h0 => by
  obtain ⟨b, hA, hlt, hr⟩ := own_range HD.out.L h0
  exact ⟨b, hA, rangeAt_keep hr (B0.out.block b hlt)⟩)
 clear x1
 go_wp2_with (at_builtin; refine wpList_app2 _ rfl _ _ rfl _ 0 0 [] rfl O0.out LA s1.W.length lc (rcs s1.W) rfl (rcs_len _) HSR.out (rcs_oneC _) (by have := HW.out; omega) ?_)
 intro A2 c2 w2 hall2
 obtain ⟨ho2, hg2, hA2⟩ := hall2
 try rw [Nat.zero_add, List.nil_append] at ho2
 have HB2 : Hid (Below w1.heap.size w1 w2) := hid (B0.out.grown hg2 (by rw [hs0]; omega) (fun k hk => by simp at hk; omega))
 have HA2 : Hid (∀ b, A2.map (·.block) = some b → w1.heap.size ≤ b) := hid (fun b hb => by
  rcases hA2 b hb with e | e
  · simp at e; omega
  · omega)
 have HO2 := hid ho2
 clear ho2 hg2 hA2 O0 B0 y1 hs0 HSR
 go_wp2_with fail
 refine (full_c l w2 HL.out).mono ?_
 rintro e w' ⟨rfl, rfl⟩
 have B3 : Hid (Below w2.heap.size w2 (w2.alloc (.cells #[.int .i64 (i : Int), .string (str (pad l))] 147))) := hid ((Below.refl _ _).alloc (nl _) _)
 have O3 : Hid ((w2.alloc (.cells #[.int .i64 (i : Int), .string (str (pad l))] 147)).ownsRow 0 147 2 (.slice A2 s1.W.length c2) s1.W.length (rcs s1.W)) := hid (own_keep HO2.out fun b hb => B3.out.block b (own_lt HO2.out b hb))
 have R3 : Hid ((w2.alloc (.cells #[.int .i64 (i : Int), .string (str (pad l))] 147)).rangeAt w2.heap.size 0 (rc (i, pad l))) := hid (fun j v hv => by
  rw [(Blk.new w2 147 #[.int .i64 (i : Int), .string (str (pad l))]).cell, Nat.zero_add]
  rw [show (#[.int .i64 (i : Int), .string (str (pad l))] : Array Value) = (rc (i, pad l)).toArray from rfl, List.getElem?_toArray]
  exact hv)
 have hs3 : (w2.alloc (.cells #[.int .i64 (i : Int), .string (str (pad l))] 147)).heap.size = w2.heap.size + 1 := by simp
 go_wp2_with (at_builtin; refine wpList_app2 _ rfl _ _ rfl A2 s1.W.length c2 (rcs s1.W) rfl O3.out (some ⟨w2.heap.size, 0, none⟩) 1 1 (rc (i, pad l)) rfl rfl (fun _ => ⟨_, rfl, R3.out⟩) (rc_one _) (by have := HW.out; omega) ?_)
 intro A4 c4 w4 hall4
 obtain ⟨ho4, hg4, hA4⟩ := hall4
 have HB4 : Hid (Below w1.heap.size w1 w4) := hid ((HB2.out.trans (B3.out.mono HB2.out.size)).grown hg4 (by rw [hs3]; have := HB2.out.size; omega) (fun k hk => HA2.out k hk))
 have hA4' : ∀ b, A4.map (·.block) = some b → w1.heap.size ≤ b := fun b hb => by
  rcases hA4 b hb with e | e
  · exact HA2.out b e
  · have := HB2.out.size; omega
 rw [← rcs_one (i, pad l), ← rcs_app] at ho4
 have hlen : s1.W.length + 1 = (s1.W ++ [(i, pad l)]).length := by simp
 have HLE : Hid (RLeft w1 (w4.setCell ⟨g, 1, none⟩ (.slice A4 (s1.W.length + 1) c4)) F1 g (s1.put i l)) := hid (by
  rw [hlen] at ho4 ⊢
  exact HD.out.setL (s1.W ++ [(i, pad l)]) (fun x hx => by
   rcases List.mem_append.1 hx with hx | hx
   · exact HD.out.ok.W x hx
   · rw [List.mem_singleton] at hx; subst hx; exact ⟨HI.out, pad_len l HL.out⟩) ho4 HB4.out hA4')
 have eg := HB4.out.block g (HD.out.F g HD.out.Fg)
 have f4 := (HD.out.blk.keep eg).frozen 1
 have u4 := (HD.out.blk.keep eg).cell 1
 simp at u4
 clear ho4 hg4 hA4 hA4' hlen eg B3 O3 R3 hs3 HB2 HA2 HO2
 go_wp2
 go_ret
 exact ⟨rfl, RLeft.after HK1.out HF1.out HLE.out⟩
section
variable {w : World} {F : Nat → Prop} {g : Nat} {s : St} {kb kc lc : Nat} {LA : Option Addr}
theorem RDevAt.bel (h : RDevAt w F g s kb kc LA lc) {w' : World} (hb : Below w.heap.size w w') : RDevAt w' F g s kb kc LA lc :=
 ⟨h.blk.keep (hb.block g (h.F g h.Fg)), own_keep h.kept fun b hb' => (by simp at hb'; subst hb'; exact hb.block kb (h.F kb h.Fk)), own_keep h.L fun b hb' => hb.block b (h.F b (h.gl b hb').2.2), h.gk, h.Fk, h.gl, h.Fg, fun j hj => Nat.lt_of_lt_of_le (h.F j hj) hb.size, h.ok⟩
theorem RDevAt.setK (h : RDevAt w F g s kb kc LA lc) {i : Nat} {b : List UInt8} (hb : b.length = 16) : RDevAt (w.setCell ⟨kb, i, none⟩ (.string (str b))) F g { s with K := upd s.K i b } kb kc LA lc := by
 have hg := grown_setCell w kb i (.string (str b))
 refine ⟨h.blk.keep (hg.block g (h.F g h.Fg) (by simpa using Ne.symm h.gk)), ?_, own_keep h.L fun b hb' => hg.block b (h.F b (h.gl b hb').2.2) (by simpa using (h.gl b hb').2.1), h.gk, h.Fk, h.gl, h.Fg, fun j hj => Nat.lt_of_lt_of_le (h.F j hj) hg.size, ⟨h.ok.n1, h.ok.n2, upd_len h.ok.K hb, h.ok.W, h.ok.lim⟩⟩
 have h1 := own_store (k := i) h.kept (.string (str b))
 rw [ksc_set] at h1
 exact h1
theorem RDevAt.nilL (h : RDevAt w F g s kb kc LA lc) : RDevAt (w.setCell ⟨g, 1, none⟩ (.slice none 0 0)) F g { s with W := [] } kb kc none 0 := by
 have hg := grown_setCell w g 1 (.slice none 0 0)
 exact ⟨h.blk.store 1 _, own_keep h.kept fun b hb' => (by simp at hb'; subst hb'; exact hg.block kb (h.F kb h.Fk) (by simpa using h.gk)), ⟨rfl, .inl ⟨rfl, rfl⟩⟩, h.gk, h.Fk, fun b hb' => (by cases hb'), h.Fg, fun j hj => Nat.lt_of_lt_of_le (h.F j hj) hg.size, ⟨h.ok.n1, h.ok.n2, h.ok.K, fun x hx => (by cases hx), h.ok.lim⟩⟩
theorem RDevAt.elem (h : RDevAt w F g s kb kc LA lc) {j : Nat} (hj : j < s.W.length) : ∃ lb, LA = some ⟨lb, 0, none⟩ ∧ w.rangeAt lb (j * 2) [.int .i64 (s.W[j].1 : Int), .string (str s.W[j].2)] := by
 obtain ⟨lb, hA, _, h1, h2⟩ := own_cells2 h.L hj
 refine ⟨lb, hA, fun t v hv => ?_⟩
 rcases t with _ | _ | t
 · simp at hv; subst hv; exact h1
 · simp at hv; subst hv; exact h2
 · simp at hv
theorem RDevAt.keptCell (h : RDevAt w F g s kb kc LA lc) {i : Nat} (hi : i < s.n) : w.cell? ⟨kb, i, none⟩ = some (.string (str (s.K i))) ∧ w.frozen? ⟨kb, i, none⟩ = false := own_cell1 h.kept hi (ksc_at s.n s.K i hi)
end
theorem z2 (w : World) : (w.alloc (.cells #[.int .i64 0, .string ⟨#[]⟩] 147)).there w.heap.size 0 2 := by
 have hB := Blk.new w 147 #[.int .i64 0, .string ⟨#[]⟩]
 refine fun j hj => ⟨?_, hB.frozen _⟩
 rw [hB.cell, Nat.zero_add, Array.getElem?_eq_getElem (by simpa using hj)]
 rfl
theorem Tryz.undR2 : ∃ d, Tryz.prog.underlying 147 = some d ∧ d.isRow = true := ⟨_, Tryz.underlying147, rfl⟩
theorem Tryz.infoR1 : (Tryz.prog.info? 147).map (·.size) = some 2 := by kernel_rfl
structure VarR (w w1 : World) (i : Nat) (b : List UInt8) : Prop where
 bel : Below w.heap.size w w1
 c0 : w1.cell? ⟨w.heap.size, 0, none⟩ = some (.int .i64 (i : Int))
 c1 : w1.cell? ⟨w.heap.size, 1, none⟩ = some (.string (str b))
 lt : w.heap.size < w1.heap.size
theorem VarR.of (w : World) (i : Nat) (b : List UInt8) : VarR w ((w.alloc (.cells #[.int .i64 0, .string ⟨#[]⟩] 147)).setCells w.heap.size 0 [.int .i64 (i : Int), .string (str b)]) i b := by
 have hr : ((w.alloc (.cells #[.int .i64 0, .string ⟨#[]⟩] 147)).setCells w.heap.size 0 [.int .i64 (i : Int), .string (str b)]).rangeAt w.heap.size 0 [.int .i64 (i : Int), .string (str b)] := World.rangeAt_setCells_same _ _ _ _ (z2 w)
 have hg := grown_setCells w.heap.size [.int .i64 (i : Int), .string (str b)] 0 (w.alloc (.cells #[.int .i64 0, .string ⟨#[]⟩] 147))
 exact ⟨((Below.refl _ _).alloc (nl _) _).grown hg (by simp) (fun k hk => by injection hk with hk; omega), hr 0 _ rfl, hr 1 _ rfl, Nat.lt_of_lt_of_le (by simp) hg.size⟩
theorem rsync_off (w : World) (F : Nat → Prop) (g : Nat) (s : St) (h : RDev w F g s) (ho : s.lim = some 0) :
 Calls Tryz.prog 101 #[.pointer (some ⟨g, 0, none⟩)] w fun e w' => e = .returned (.int .i64 40) ∧ w = w' := by
 have hc := rcall_off w F g s h ho
 clear h
 go_enter Tryz.func101, Tryz.ntmps101
 go_wp2_with fail
 refine hc.mono ?_
 rintro e w' ⟨rfl, rfl⟩
 go_wp2
 go_ret
 exact ⟨rfl, rfl⟩
theorem rsync_c (w : World) (F : Nat → Prop) (g : Nat) (s : St) (h : RDev w F g s) (ho : s.lim ≠ some 0) (hW : s.W.length ≤ 1000000) :
 Calls Tryz.prog 101 #[.pointer (some ⟨g, 0, none⟩)] w fun e w' => e = .returned (.int .i64 0) ∧ RLeft w w' F g s.sync.dec := by
 have hc := rcall_on w F g s h ho
 have HWl : Hid (s.dec.W.length ≤ 1000000) := hid hW
 have HE : Hid (s.sync.dec = s.dec.sync) := hid rfl
 rw [HE.out]
 generalize s.dec = s1 at *
 clear h ho hW HE
 go_enter Tryz.func101, Tryz.ntmps101
 go_wp2_with fail
 refine hc.mono ?_
 rintro e w1 ⟨rfl, F1, ⟨kb, kc, LA, lc, hd⟩, hk1, hF1⟩
 have HK1 := hid hk1
 have HF1 := hid hF1
 obtain ⟨-, x2, -⟩ := hd.cells
 have HG : Hid (RDevAt w1 F1 g { s1 with K := app (s1.W.take 0) s1.K } kb kc LA lc) := hid hd
 clear hc hk1 hF1 hd
 go_wp2_with fail
 go_loopw [15] (fun iv wr => ∃ j : Nat, iv = .int .i64 (j : Int) ∧ Hid (j ≤ s1.W.length) ∧ Hid (RDevAt wr F1 g { s1 with K := app (s1.W.take j) s1.K } kb kc LA lc) ∧ Hid (Kp F1 w1 wr)) (fun iv _ => s1.W.length - (intOf iv).toNat)
 case atStart => exact ⟨0, rfl, hid (Nat.zero_le _), HG, hid (Kp.refl _ _)⟩
 case round =>
  obtain ⟨j, rfl, hj, hG, hP⟩ := hrel
  clear HG x2
  rcases Nat.lt_or_ge j s1.W.length with hlt | hge
  · have HLT := hid hlt
    obtain ⟨lb, rfl, hR⟩ : ∃ lb, LA = some ⟨lb, 0, none⟩ ∧ wr.rangeAt lb (j * 2) [.int .i64 (s1.W[j].1 : Int), .string (str s1.W[j].2)] := hG.out.elem hlt
    have hx : s1.W[j].1 < s1.n ∧ s1.W[j].2.length = 16 := hG.out.ok.W s1.W[j] (List.getElem_mem hlt)
    have htk : s1.W.take (j + 1) = s1.W.take j ++ [(s1.W[j].1, s1.W[j].2)] := List.take_succ_eq_append_getElem hlt
    generalize s1.W[j].1 = i at *
    generalize s1.W[j].2 = l at *
    have HX := hid hx
    have HTK := hid htk
    have HR := hid hR
    obtain ⟨d, hd1, hd2⟩ := Tryz.undR2
    have HD := hid (And.intro hd1 hd2)
    have HIN : Hid ((Tryz.prog.info? 147).map (·.size) = some ([Value.int .i64 (i : Int), .string (str l)] : List Value).length) := hid Tryz.infoR1
    have HT : Hid ((wr.alloc (.cells #[.int .i64 0, .string ⟨#[]⟩] 147)).there wr.heap.size 0 ([Value.int .i64 (i : Int), .string (str l)] : List Value).toArray.size) := hid (z2 wr)
    have HC : Hid (([Value.int .i64 (i : Int), .string (str l)] : List Value).toArray.all (·.oneCell') = true) := hid (all_oneCell_toArray (rc_one (i, l)))
    have HV : Hid (VarR wr ((wr.alloc (.cells #[.int .i64 0, .string ⟨#[]⟩] 147)).setCells wr.heap.size 0 [.int .i64 (i : Int), .string (str l)]) i l) := hid (VarR.of wr i l)
    have j1 : (0 : Int) ≤ (j : Int) := by omega
    have j2 : (j : Int) < (s1.W.length : Int) := by omega
    have j3 : decide ((j : Int) < (s1.W.length : Int)) = true := by simpa using hlt
    have j4 : decide (j < s1.W.length) = true := by simpa using hlt
    have i1 : (0 : Int) ≤ (i : Int) := by omega
    have i2 : (i : Int) < (s1.n : Int) := by have := hx.1; omega
    have wj : wrap64 ((j : Int) + 1) = ((j + 1 : Nat) : Int) := by have := HWl.out; unfold wrap64; omega
    clear hx htk hR hd1 hd2
    generalize hE : ([Value.int .i64 (i : Int), .string (str l)] : List Value) = E at *
    clear hE
    as_aux_lemma =>
    go_wp2_with (first | (refine wpList_load_mid rfl 147 _ rfl lb (j * 2) rfl E d HR.out HD.out.1 HD.out.2 HIN.out ?_) | (refine wpList_store_mid rfl 147 _ _ rfl _ _ E.toArray rfl rfl HT.out HIN.out HC.out ?_))
    simp only [Act.put]
    generalize (wr.alloc (.cells #[.int .i64 0, .string ⟨#[]⟩] 147)).setCells wr.heap.size 0 E = w2 at *
    have HG2 := hid (hG.out.bel HV.out.bel)
    obtain ⟨y0, -, -⟩ := HG2.out.cells
    have y1 := HV.out.c0
    have y2 := HV.out.c1
    have hv1 : Hid (wr.heap.size ≠ kb) := hid (by have := hG.out.F kb hG.out.Fk; omega)
    have HP2 := hid (hP.out.trans (Kp.ofBelow HV.out.bel))
    clear hG HR HT HC HIN HLT hP HD
    refine wp_region_held_drew (S := fun wx => wx.cell? ⟨g, 0, none⟩ = some (.slice (some ⟨kb, 0, none⟩) s1.n kc) ∧ wx.cell? ⟨wr.heap.size, 0, none⟩ = some (.int .i64 (i : Int)) ∧ wx.cell? ⟨wr.heap.size, 1, none⟩ = some (.string (str l))) (by kernel_rfl) ⟨by simpa using y0, by simpa using y1, by simpa using y2⟩ (fun HS => ?_)
    have B3 : Hid (Below w2.heap.size w2 w2.drew) := hid ((Below.refl _ _).drew)
    generalize w2.drew = w3 at *
    obtain ⟨u0, u1⟩ := (HG2.out.bel B3.out).keptCell HX.out.1
    refine qT 0 ?v0 ?y0 HS ?r0
    case y0 => refine qI fun wS hSw => ?_; go_simp; try with_reducible rfl
    try simp only [Act.put, zA]
    refine qT 1 ?v1 ?y1 HS ?r1
    case y1 => refine qI fun wS hSw => ?_; go_simp; try with_reducible rfl
    try simp only [Act.put, zA]
    refine qT 2 ?v2 ?y2 HS ?r2
    case y2 => refine qI fun wS hSw => ?_; go_simp; try with_reducible rfl
    try simp only [Act.put, zA]
    refine qT 3 ?v3 ?y3 HS ?r3
    case y3 =>
     refine qI fun wS hSw => ?_
     obtain ⟨z0, z1, z2⟩ := hSw
     go_simp
     try with_reducible rfl
    try simp only [Act.put, zA]
    refine qT 4 ?v4 ?y4 HS ?r4
    case y4 => refine qI fun wS hSw => ?_; go_simp; try with_reducible rfl
    try simp only [Act.put, zA]
    refine qT 5 ?v5 ?y5 HS ?r5
    case y5 =>
     refine qI fun wS hSw => ?_
     obtain ⟨z0, z1, z2⟩ := hSw
     go_simp
     try with_reducible rfl
    try simp only [Act.put, zA]
    refine qT 6 ?v6 ?y6 HS ?r6
    case y6 => refine qI fun wS hSw => ?_; go_simp; try with_reducible rfl
    try simp only [Act.put, zA]
    refine qT 7 ?v7 ?y7 HS ?r7
    case y7 =>
     refine qI fun wS hSw => ?_
     obtain ⟨z0, z1, z2⟩ := hSw
     go_simp
     try with_reducible rfl
    try simp only [Act.put, zA]
    refine qT 8 ?v8 ?y8 HS ?r8
    case y8 => refine qI fun wS hSw => ?_; go_simp; try with_reducible rfl
    try simp only [Act.put, zA]
    refine qR 9 fun K hK => ?_
    rw [if_pos (by rfl)]
    go_simp
    refine hK.out _ _ ⟨by have h0 := ((HG2.out.bel B3.out).setK (i := i) HX.out.2).cells.1; simpa using h0, (World.cell?_of_block ((grown_setCell w3 kb i _).block wr.heap.size (by have := HV.out.lt; have := B3.out.size; omega) (by simpa using hv1.out))).trans HS.2.1, (World.cell?_of_block ((grown_setCell w3 kb i _).block wr.heap.size (by have := HV.out.lt; have := B3.out.size; omega) (by simpa using hv1.out))).trans HS.2.2⟩ (fun HS => ?_)
    clear hK K
    try simp only [Act.put]
    refine qD ?_
    have hG4 : RDevAt (w3.setCell ⟨kb, i, none⟩ (.string (str l))) F1 g { s1 with K := app (s1.W.take (j + 1)) s1.K } kb kc (some ⟨lb, 0, none⟩) lc := by
     rw [HTK.out, app_snoc]
     exact (HG2.out.bel B3.out).setK HX.out.2
    have hP4 : Kp F1 w1 (w3.setCell ⟨kb, i, none⟩ (.string (str l))) := (HP2.out.trans (Kp.ofBelow B3.out)).trans (Kp.setCell _ _ _ _ HG2.out.Fk)
    clear HS y0 y1 y2 HV HG2 u0 u1
    generalize w3.setCell ⟨kb, i, none⟩ (.string (str l)) = w4 at *
    have HG4 := hid hG4
    have HP4 := hid hP4
    clear hG4 hP4
    go_wp2
    exact ⟨⟨j + 1, congrArg (Value.int .i64) wj, hid hlt, HG4, HP4⟩, by rw [wj]; simp [intOf]; omega⟩
  · have HJ : Hid (j = s1.W.length) := hid (by have := hj.out; omega)
    have j3 : decide ((j : Int) < (s1.W.length : Int)) = false := by simp; omega
    have j4 : decide (j < s1.W.length) = false := by simp; omega
    have f1 := hG.out.blk.frozen 1
    obtain ⟨-, y2, -⟩ := hG.out.cells
    have HN : Hid (RLeft w1 (wr.setCell ⟨g, 1, none⟩ (.slice none 0 0)) F1 g s1.sync) := hid (by
     have hG' := hG.out
     rw [HJ.out, List.take_length] at hG'
     exact ⟨F1, ⟨kb, kc, none, 0, hG'.nilL⟩, hP.out.trans (Kp.setCell _ _ _ _ hG'.Fg), fun j hj => .inl hj⟩)
    clear hG hP hj hge
    go_wp2
    go_ret
    exact ⟨rfl, RLeft.after HK1.out HF1.out HN.out⟩
theorem rcrash_c (w1 : World) (F1 : Nat → Prop) (g : Nat) (s1 : St) (h : RDev w1 F1 g s1) (KA : Option Addr) (kn kq : Nat) (keep : List Bool) (hk : Lst w1 0 w1.heap.size KA kn (keep.map .bool)) (hA : 0 < kn → ∀ u, KA.map (·.block) = some u → ¬ F1 u) (hW : s1.W.length ≤ 1000000) :
 Calls Tryz.prog 28 #[.pointer (some ⟨g, 0, none⟩), .slice KA kn kq] w1 fun e w' => e = .returned (.tuple #[]) ∧ RLeft w1 w' F1 g (s1.crash keep) := by
 have HWl := hid hW
 have HKP := hid (fun wx (hx : Kp F1 w1 wx) => hk.kp hx hA)
 have hlk : keep.length = kn := by have := hk.len; simpa using this
 have HLK := hid hlk
 obtain ⟨kb, kc, LA, lc, hd⟩ := h
 obtain ⟨-, x2, -⟩ := hd.cells
 have HG : Hid (RDevAt w1 F1 g { s1 with K := app (ke (s1.W.take 0) keep) s1.K } kb kc LA lc) := hid hd
 clear hd hk hA hW hlk
 go_enter Tryz.func28, Tryz.ntmps28
 go_wp2_with fail
 go_loopw [11] (fun iv wr => ∃ j : Nat, iv = .int .i64 (j : Int) ∧ Hid (j ≤ s1.W.length) ∧ Hid (RDevAt wr F1 g { s1 with K := app (ke (s1.W.take j) keep) s1.K } kb kc LA lc) ∧ Hid (Kp F1 w1 wr)) (fun iv _ => s1.W.length - (intOf iv).toNat)
 case atStart => exact ⟨0, rfl, hid (Nat.zero_le _), HG, hid (Kp.refl _ _)⟩
 case round =>
  obtain ⟨j, rfl, hj, hG, hP⟩ := hrel
  clear HG x2
  rcases Nat.lt_or_ge j s1.W.length with hlt | hge
  · have HLT := hid hlt
    have hlj : Hid ((s1.W.take j).length = j) := hid (by simp; omega)
    obtain ⟨lb, rfl, hR⟩ : ∃ lb, LA = some ⟨lb, 0, none⟩ ∧ wr.rangeAt lb (j * 2) [.int .i64 (s1.W[j].1 : Int), .string (str s1.W[j].2)] := hG.out.elem hlt
    have hx : s1.W[j].1 < s1.n ∧ s1.W[j].2.length = 16 := hG.out.ok.W s1.W[j] (List.getElem_mem hlt)
    have htk : s1.W.take (j + 1) = s1.W.take j ++ [(s1.W[j].1, s1.W[j].2)] := List.take_succ_eq_append_getElem hlt
    generalize s1.W[j].1 = i at *
    generalize s1.W[j].2 = l at *
    have HX := hid hx
    have HTK := hid htk
    have HR := hid hR
    obtain ⟨d, hd1, hd2⟩ := Tryz.undR2
    have HD := hid (And.intro hd1 hd2)
    have HIN : Hid ((Tryz.prog.info? 147).map (·.size) = some ([Value.int .i64 (i : Int), .string (str l)] : List Value).length) := hid Tryz.infoR1
    have HT : Hid ((wr.alloc (.cells #[.int .i64 0, .string ⟨#[]⟩] 147)).there wr.heap.size 0 ([Value.int .i64 (i : Int), .string (str l)] : List Value).toArray.size) := hid (z2 wr)
    have HC : Hid (([Value.int .i64 (i : Int), .string (str l)] : List Value).toArray.all (·.oneCell') = true) := hid (all_oneCell_toArray (rc_one (i, l)))
    have HV : Hid (VarR wr ((wr.alloc (.cells #[.int .i64 0, .string ⟨#[]⟩] 147)).setCells wr.heap.size 0 [.int .i64 (i : Int), .string (str l)]) i l) := hid (VarR.of wr i l)
    have j1 : (0 : Int) ≤ (j : Int) := by omega
    have j2 : (j : Int) < (s1.W.length : Int) := by omega
    have j3 : decide ((j : Int) < (s1.W.length : Int)) = true := by simpa using hlt
    have j4 : decide (j < s1.W.length) = true := by simpa using hlt
    have i1 : (0 : Int) ≤ (i : Int) := by omega
    have i2 : (i : Int) < (s1.n : Int) := by have := hx.1; omega
    have wj : wrap64 ((j : Int) + 1) = ((j + 1 : Nat) : Int) := by have := HWl.out; unfold wrap64; omega
    clear hx htk hR hd1 hd2
    generalize hE : ([Value.int .i64 (i : Int), .string (str l)] : List Value) = E at *
    clear hE
    as_aux_lemma =>
    go_upto_region 3 with (first | (refine wpList_load_mid rfl 147 _ rfl lb (j * 2) rfl E d HR.out HD.out.1 HD.out.2 HIN.out ?_) | (refine wpList_store_mid rfl 147 _ _ rfl _ _ E.toArray rfl rfl HT.out HIN.out HC.out ?_))
    simp only [Act.put]
    generalize (wr.alloc (.cells #[.int .i64 0, .string ⟨#[]⟩] 147)).setCells wr.heap.size 0 E = w2 at *
    have HG2 := hid (hG.out.bel HV.out.bel)
    have hv1 : Hid (wr.heap.size ≠ kb) := hid (by have := hG.out.F kb hG.out.Fk; omega)
    have HP2 := hid (hP.out.trans (Kp.ofBelow HV.out.bel))
    have HLs := hid (HKP.out w2 HP2.out)
    clear hG HR HT HC HIN hP HD HKP
    rcases Nat.lt_or_ge j kn with hjk | hjk
    · obtain ⟨qb, qo, rfl, -, -, hcell⟩ := HLs.out.2 (by omega)
      have hjl : j < keep.length := by rw [HLK.out]; exact hjk
      have yk : w2.cell? ⟨qb, qo + j, none⟩ = some (.bool keep[j]) := hcell j _ (by rw [List.getElem?_map, List.getElem?_eq_getElem hjl]; rfl)
      have ek : keep[j]? = some keep[j] := List.getElem?_eq_getElem hjl
      have k2 : (j : Int) < (kn : Int) := by omega
      have k3 : decide ((j : Int) < (kn : Int)) = true := by simpa using hjk
      have k4 : decide (j < kn) = true := by simpa using hjk
      generalize keep[j] = kt at *
      have EK := hid ek
      clear hcell HLs ek
      cases kt
      · have EN : Hid (¬ keep[j]? = some true) := hid (by rw [EK.out]; decide)
        have HG4 : Hid (RDevAt w2 F1 g { s1 with K := app (ke (s1.W.take (j + 1)) keep) s1.K } kb kc (some ⟨lb, 0, none⟩) lc) := hid (by
         rw [HTK.out, ke_snoc, if_neg (by rw [hlj.out]; exact EN.out), List.append_nil]
         exact HG2.out)
        clear HG2 HV
        go_wp2
        exact ⟨⟨j + 1, congrArg (Value.int .i64) wj, hid hlt, HG4, HP2⟩, by rw [wj]; simp [intOf]; omega⟩
      · obtain ⟨y0, -, -⟩ := HG2.out.cells
        have y1 := HV.out.c0
        have y2 := HV.out.c1
        go_wp2_with fail
        refine wp_region_held_drew (S := fun wx => wx.cell? ⟨g, 0, none⟩ = some (.slice (some ⟨kb, 0, none⟩) s1.n kc) ∧ wx.cell? ⟨wr.heap.size, 0, none⟩ = some (.int .i64 (i : Int)) ∧ wx.cell? ⟨wr.heap.size, 1, none⟩ = some (.string (str l))) (by kernel_rfl) ⟨by simpa using y0, by simpa using y1, by simpa using y2⟩ (fun HS => ?_)
        have B3 : Hid (Below w2.heap.size w2 w2.drew) := hid ((Below.refl _ _).drew)
        generalize w2.drew = w3 at *
        obtain ⟨u0, u1⟩ := (HG2.out.bel B3.out).keptCell HX.out.1
        refine qT 0 ?v0 ?y0 HS ?r0
        case y0 => refine qI fun wS hSw => ?_; go_simp; try with_reducible rfl
        try simp only [Act.put, zA]
        refine qT 1 ?v1 ?y1 HS ?r1
        case y1 => refine qI fun wS hSw => ?_; go_simp; try with_reducible rfl
        try simp only [Act.put, zA]
        refine qT 2 ?v2 ?y2 HS ?r2
        case y2 => refine qI fun wS hSw => ?_; go_simp; try with_reducible rfl
        try simp only [Act.put, zA]
        refine qT 3 ?v3 ?y3 HS ?r3
        case y3 =>
         refine qI fun wS hSw => ?_
         obtain ⟨z0, z1, z2⟩ := hSw
         go_simp
         try with_reducible rfl
        try simp only [Act.put, zA]
        refine qT 4 ?v4 ?y4 HS ?r4
        case y4 => refine qI fun wS hSw => ?_; go_simp; try with_reducible rfl
        try simp only [Act.put, zA]
        refine qT 5 ?v5 ?y5 HS ?r5
        case y5 =>
         refine qI fun wS hSw => ?_
         obtain ⟨z0, z1, z2⟩ := hSw
         go_simp
         try with_reducible rfl
        try simp only [Act.put, zA]
        refine qT 6 ?v6 ?y6 HS ?r6
        case y6 => refine qI fun wS hSw => ?_; go_simp; try with_reducible rfl
        try simp only [Act.put, zA]
        refine qT 7 ?v7 ?y7 HS ?r7
        case y7 =>
         refine qI fun wS hSw => ?_
         obtain ⟨z0, z1, z2⟩ := hSw
         go_simp
         try with_reducible rfl
        try simp only [Act.put, zA]
        refine qT 8 ?v8 ?y8 HS ?r8
        case y8 => refine qI fun wS hSw => ?_; go_simp; try with_reducible rfl
        try simp only [Act.put, zA]
        refine qR 9 fun K hK => ?_
        rw [if_pos (by rfl)]
        go_simp
        refine hK.out _ _ ⟨by have h0 := ((HG2.out.bel B3.out).setK (i := i) HX.out.2).cells.1; simpa using h0, (World.cell?_of_block ((grown_setCell w3 kb i _).block wr.heap.size (by have := HV.out.lt; have := B3.out.size; omega) (by simpa using hv1.out))).trans HS.2.1, (World.cell?_of_block ((grown_setCell w3 kb i _).block wr.heap.size (by have := HV.out.lt; have := B3.out.size; omega) (by simpa using hv1.out))).trans HS.2.2⟩ (fun HS => ?_)
        clear hK K
        try simp only [Act.put]
        refine qD ?_
        have hG4 : RDevAt (w3.setCell ⟨kb, i, none⟩ (.string (str l))) F1 g { s1 with K := app (ke (s1.W.take (j + 1)) keep) s1.K } kb kc (some ⟨lb, 0, none⟩) lc := by
         rw [HTK.out, ke_snoc, if_pos (by rw [hlj.out]; exact EK.out), app_snoc]
         exact (HG2.out.bel B3.out).setK HX.out.2
        have hP4 : Kp F1 w1 (w3.setCell ⟨kb, i, none⟩ (.string (str l))) := (HP2.out.trans (Kp.ofBelow B3.out)).trans (Kp.setCell _ _ _ _ HG2.out.Fk)
        clear HS y0 y1 y2 HV HG2 u0 u1 yk
        generalize w3.setCell ⟨kb, i, none⟩ (.string (str l)) = w4 at *
        have HG4 := hid hG4
        have HP4 := hid hP4
        clear hG4 hP4
        go_wp2
        exact ⟨⟨j + 1, congrArg (Value.int .i64) wj, hid hlt, HG4, HP4⟩, by rw [wj]; simp [intOf]; omega⟩
    · have k3 : decide ((j : Int) < (kn : Int)) = false := by simp; omega
      have k4 : decide (j < kn) = false := by simp; omega
      have EN : Hid (¬ keep[j]? = some true) := hid (by rw [List.getElem?_eq_none (by rw [HLK.out]; exact hjk)]; simp)
      have HG4 : Hid (RDevAt w2 F1 g { s1 with K := app (ke (s1.W.take (j + 1)) keep) s1.K } kb kc (some ⟨lb, 0, none⟩) lc) := hid (by
       rw [HTK.out, ke_snoc, if_neg (by rw [hlj.out]; exact EN.out), List.append_nil]
       exact HG2.out)
      clear HG2 HV HLs
      go_wp2
      exact ⟨⟨j + 1, congrArg (Value.int .i64) wj, hid hlt, HG4, HP2⟩, by rw [wj]; simp [intOf]; omega⟩
  · have HJ : Hid (j = s1.W.length) := hid (by have := hj.out; omega)
    have j3 : decide ((j : Int) < (s1.W.length : Int)) = false := by simp; omega
    have j4 : decide (j < s1.W.length) = false := by simp; omega
    have f1 := hG.out.blk.frozen 1
    have f2 := hG.out.blk.frozen 2
    obtain ⟨-, y1, y2⟩ := hG.out.cells
    have HN : Hid (RLeft w1 ((wr.setCell ⟨g, 1, none⟩ (.slice none 0 0)).setCell ⟨g, 2, none⟩ (.int .i64 (-1))) F1 g (s1.crash keep)) := hid (by
     have hG' := hG.out
     rw [HJ.out, List.take_length] at hG'
     exact RLeft.after (hP.out.trans (Kp.setCell _ _ _ _ hG'.Fg)) (fun j hj => .inl hj) (hG'.nilL.lim none (fun d hd => by cases hd)))
    generalize rl _ = RR at y2
    clear hG hP hj hge
    go_wp2
    go_end0
    exact ⟨rfl, HN.out⟩
theorem RDevAt.setL' {w w7 : World} {F : Nat → Prop} {g : Nat} {s : St} {kb kc lc : Nat} {LA : Option Addr} (h : RDevAt w F g s kb kc LA lc) (W : Wr) (hW : ∀ x ∈ W, x.1 < s.n ∧ x.2.length = 16) {A : Option Addr} {c : Nat}
 (ho : w7.ownsRow 0 147 2 (.slice A W.length c) W.length (rcs W)) (hb : Below w.heap.size w w7) (hA : ∀ b, A.map (·.block) = some b → w.heap.size ≤ b) :
 RDevAt (w7.setCell ⟨g, 1, none⟩ (.slice A W.length c)) (fun j => F j ∨ (w.heap.size ≤ j ∧ j < w7.heap.size)) g { s with W := W } kb kc A c ∧ Kp F w (w7.setCell ⟨g, 1, none⟩ (.slice A W.length c)) ∧ F kb := by
 have hg := grown_setCell w7 g 1 (.slice A W.length c)
 have lt : ∀ j, F j → j < w7.heap.size := fun j hj => Nat.lt_of_lt_of_le (h.F j hj) hb.size
 have nb : ∀ b, A.map (·.block) = some b → b ≠ g ∧ b ≠ kb := fun b hb' => by
  have h1 := hA b hb'
  have h2 := h.F g h.Fg
  have h3 := h.F kb h.Fk
  omega
 refine ⟨⟨?_, ?_, ?_, h.gk, .inl h.Fk, fun b hb' => ⟨(nb b hb').1, (nb b hb').2, .inr ⟨hA b hb', own_lt ho b hb'⟩⟩, .inl h.Fg, fun j hj => ?_, ⟨h.ok.n1, h.ok.n2, h.ok.K, hW, h.ok.lim⟩⟩, (Kp.ofBelow hb).trans (Kp.setCell w7 g 1 _ h.Fg), h.Fk⟩
 · exact (h.blk.keep (hb.block g (h.F g h.Fg))).store 1 _
 · have k1 := own_keep (w' := w7) h.kept fun b hb' => (by simp at hb'; subst hb'; exact hb.block kb (h.F kb h.Fk))
   exact own_keep k1 fun b hb' => (by simp at hb'; subst hb'; exact hg.block kb (lt kb h.Fk) (by simpa using h.gk))
 · exact own_keep ho fun b hb' => hg.block b (own_lt ho b hb') (by simpa using (nb b hb').1)
 · have := hg.size
   rcases hj with e | e
   · have := lt j e; omega
   · omega
theorem rover_bad (w : World) (F : Nat → Prop) (g : Nat) (s : St) (h : RDev w F g s) (i : Int) (l : List UInt8) (hb : bad s i l.length) :
 Calls Tryz.prog 23 #[.pointer (some ⟨g, 0, none⟩), .int .i64 i, .string (str l)] w fun e w' => e = .returned (.int .i64 2) ∧ w = w' := by
 have hr := rright_c w F g s h i l
 rw [show decide (bad s i l.length) = true from decide_eq_true hb] at hr
 clear h hb
 go_enter Tryz.func23, Tryz.ntmps23
 go_wp2_with fail
 refine hr.mono ?_
 rintro e w' ⟨rfl, rfl⟩
 go_wp2
 go_ret
 exact ⟨rfl, rfl⟩
theorem rover_c (w1 : World) (F1 : Nat → Prop) (g : Nat) (s1 : St) (h : RDev w1 F1 g s1) (i : Nat) (hi : i < s1.n) (l : List UInt8) (hl : l.length ≤ 16) (hW : s1.W.length ≤ 100000) :
 Calls Tryz.prog 23 #[.pointer (some ⟨g, 0, none⟩), .int .i64 (i : Int), .string (str l)] w1 fun e w' => e = .returned (.int .i64 0) ∧ RLeft w1 w' F1 g (s1.over i l) := by
 have hr := rright_c w1 F1 g s1 h i l
 rw [show decide (bad s1 i l.length) = false from decide_eq_false (by unfold bad; omega)] at hr
 have HI := hid hi
 have HL := hid hl
 have HWl := hid hW
 have i1 : (0 : Int) ≤ (i : Int) := by omega
 have i2 : (i : Int) < (s1.n : Int) := by omega
 obtain ⟨kb, kc, LA, lc, hd⟩ := h
 obtain ⟨-, x1, -⟩ := hd.cells
 have HG := hid hd
 clear hd hi hl hW
 go_enter Tryz.func23, Tryz.ntmps23
 go_wp2_with fail
 refine hr.mono ?_
 rintro e w' ⟨rfl, rfl⟩
 clear hr
 go_wp2_with fail
 go_loopw [20, 7] (fun iv rv wr => ∃ (j : Nat) (A : Option Addr) (c : Nat), iv = .int .i64 (j : Int) ∧ rv = .slice A (fil (s1.W.take j) i).length c ∧ Hid (j ≤ s1.W.length) ∧ Hid (wr.ownsRow 0 147 2 (.slice A (fil (s1.W.take j) i).length c) (fil (s1.W.take j) i).length (rcs (fil (s1.W.take j) i))) ∧ Hid (Below w1.heap.size w1 wr) ∧ Hid (∀ b, A.map (·.block) = some b → w1.heap.size ≤ b)) (fun iv _ _ => s1.W.length - (intOf iv).toNat)
 case atStart => exact ⟨0, none, 0, rfl, rfl, hid (Nat.zero_le _), hid ⟨rfl, .inl ⟨rfl, rfl⟩⟩, hid (Below.refl _ _), hid (fun b hb => by cases hb)⟩
 case round =>
  obtain ⟨j, A, c, rfl, rfl, hj, hO, hB, hA⟩ := hrel
  clear x1
  rcases Nat.lt_or_ge j s1.W.length with hlt | hge
  · have HLT := hid hlt
    obtain ⟨lb, hLA, hR⟩ : ∃ lb, LA = some ⟨lb, 0, none⟩ ∧ wr.rangeAt lb (j * 2) [.int .i64 (s1.W[j].1 : Int), .string (str s1.W[j].2)] := (HG.out.bel hB.out).elem hlt
    have HSN := hid (fil_snoc (s1.W.take j) i s1.W[j])
    have HTK : Hid (s1.W.take (j + 1) = s1.W.take j ++ [s1.W[j]]) := hid (List.take_succ_eq_append_getElem hlt)
    have HLE : Hid ((fil (s1.W.take j) i).length ≤ 100000) := hid (by have := fil_len (s1.W.take j) i; have := HWl.out; simp at *; omega)
    generalize s1.W[j] = x at *
    have HR := hid hR
    obtain ⟨d, hd1, hd2⟩ := Tryz.undR2
    have HD := hid (And.intro hd1 hd2)
    have HIN : Hid ((Tryz.prog.info? 147).map (·.size) = some ([Value.int .i64 (x.1 : Int), .string (str x.2)] : List Value).length) := hid Tryz.infoR1
    have HT : Hid ((wr.alloc (.cells #[.int .i64 0, .string ⟨#[]⟩] 147)).there wr.heap.size 0 ([Value.int .i64 (x.1 : Int), .string (str x.2)] : List Value).toArray.size) := hid (z2 wr)
    have HC : Hid (([Value.int .i64 (x.1 : Int), .string (str x.2)] : List Value).toArray.all (·.oneCell') = true) := hid (all_oneCell_toArray (rc_one x))
    have HV : Hid (VarR wr ((wr.alloc (.cells #[.int .i64 0, .string ⟨#[]⟩] 147)).setCells wr.heap.size 0 [.int .i64 (x.1 : Int), .string (str x.2)]) x.1 x.2) := hid (VarR.of wr x.1 x.2)
    have j1 : (0 : Int) ≤ (j : Int) := by omega
    have j2 : (j : Int) < (s1.W.length : Int) := by omega
    have j3 : decide ((j : Int) < (s1.W.length : Int)) = true := by simpa using hlt
    have j4 : decide (j < s1.W.length) = true := by simpa using hlt
    have wj : wrap64 ((j : Int) + 1) = ((j + 1 : Nat) : Int) := by have := HWl.out; unfold wrap64; omega
    subst hLA
    clear hR hd1 hd2
    generalize hE : ([Value.int .i64 (x.1 : Int), .string (str x.2)] : List Value) = E at *
    clear hE
    as_aux_lemma =>
    go_upto_region 7 with (first | (refine wpList_load_mid rfl 147 _ rfl lb (j * 2) rfl E d HR.out HD.out.1 HD.out.2 HIN.out ?_) | (refine wpList_store_mid rfl 147 _ _ rfl _ _ E.toArray rfl rfl HT.out HIN.out HC.out ?_))
    simp only [Act.put]
    generalize (wr.alloc (.cells #[.int .i64 0, .string ⟨#[]⟩] 147)).setCells wr.heap.size 0 E = w2 at *
    have y1 := HV.out.c0
    have y2 := HV.out.c1
    have HB2 : Hid (Below w1.heap.size w1 w2) := hid (hB.out.trans (HV.out.bel.mono hB.out.size))
    have HO2 := hid (own_keep (w' := w2) hO.out fun b hb => HV.out.bel.block b (own_lt hO.out b hb))
    clear hO hB HR HT HC HIN HD
    by_cases hxi : x.1 = i
    · have e1 : ((x.1 : Int) != (i : Int)) = false := by simp [hxi]
      have e2 : ((x.1 : Int) == (i : Int)) = true := by simp [hxi]
      have HF : Hid (fil (s1.W.take (j + 1)) i = fil (s1.W.take j) i) := hid (by rw [HTK.out, HSN.out, if_pos hxi, List.append_nil])
      clear hxi HV y2
      generalize x.1 = xi at *
      generalize fil (s1.W.take j) i = V at *
      go_wp2
      exact ⟨⟨j + 1, A, c, congrArg (Value.int .i64) wj, by rw [HF.out], hid hlt, by rw [HF.out]; exact HO2, HB2, hA⟩, by rw [wj]; simp [intOf]; omega⟩
    · have e1 : ((x.1 : Int) != (i : Int)) = true := by simp; omega
      have e2 : ((x.1 : Int) == (i : Int)) = false := by simp; omega
      have HF : Hid (fil (s1.W.take (j + 1)) i = fil (s1.W.take j) i ++ [x]) := hid (by rw [HTK.out, HSN.out, if_neg hxi])
      have B3 : Hid (Below w2.heap.size w2 (w2.alloc (.cells #[.int .i64 (x.1 : Int), .string (str x.2)] 147))) := hid ((Below.refl _ _).alloc (nl _) _)
      have O3 := hid (own_keep (w' := w2.alloc (.cells #[.int .i64 (x.1 : Int), .string (str x.2)] 147)) HO2.out fun b hb => B3.out.block b (own_lt HO2.out b hb))
      have R3 : Hid ((w2.alloc (.cells #[.int .i64 (x.1 : Int), .string (str x.2)] 147)).rangeAt w2.heap.size 0 (rc x)) := hid (fun j v hv => by
       rw [(Blk.new w2 147 #[.int .i64 (x.1 : Int), .string (str x.2)]).cell, Nat.zero_add]
       rw [show (#[.int .i64 (x.1 : Int), .string (str x.2)] : Array Value) = (rc x).toArray from rfl, List.getElem?_toArray]
       exact hv)
      have hs3 : (w2.alloc (.cells #[.int .i64 (x.1 : Int), .string (str x.2)] 147)).heap.size = w2.heap.size + 1 := by simp
      have RC := hid (rc_one x)
      have RL : Hid ((rc x).length = 1 * 2) := hid rfl
      have HAP : Hid (rcs (fil (s1.W.take j) i) ++ rc x = rcs (fil (s1.W.take j) i ++ [x])) := hid (by rw [rcs_app, rcs_one])
      clear hxi HV
      generalize x.1 = xi at *
      generalize str x.2 = xs at *
      generalize rc x = RX at *
      generalize fil (s1.W.take j) i = V at *
      go_wp2_with (at_builtin; refine wpList_app2 _ rfl _ _ rfl A V.length c (rcs V) rfl O3.out (some ⟨w2.heap.size, 0, none⟩) 1 1 RX rfl RL.out (fun _ => ⟨_, rfl, R3.out⟩) RC.out (by have := HLE.out; omega) ?_)
      intro A4 c4 w4 hall4
      obtain ⟨ho4, hg4, hA4⟩ := hall4
      have HB4 : Hid (Below w1.heap.size w1 w4) := hid ((HB2.out.trans (B3.out.mono HB2.out.size)).grown hg4 (by rw [hs3]; have := HB2.out.size; omega) (fun k hk => hA.out k hk))
      have HA4 : Hid (∀ b, A4.map (·.block) = some b → w1.heap.size ≤ b) := hid (fun b hb => by
       rcases hA4 b hb with e | e
       · exact hA.out b e
       · have := HB2.out.size; omega)
      rw [HAP.out] at ho4
      have HO4 := hid ho4
      clear ho4 hg4 hA4 B3 O3 R3 hs3 HB2 HO2 hA y1 y2
      go_wp2
      exact ⟨⟨j + 1, A4, c4, congrArg (Value.int .i64) wj, by rw [HF.out]; simp, hid hlt, by rw [HF.out]; have h9 := HO4.out; rw [show V.length + 1 = (V ++ [x]).length by simp] at h9; exact hid h9, HB4, HA4⟩, by rw [wj]; simp [intOf]; omega⟩
  · have HJ : Hid (j = s1.W.length) := hid (by have := hj.out; omega)
    have j3 : decide ((j : Int) < (s1.W.length : Int)) = false := by simp; omega
    have j4 : decide (j < s1.W.length) = false := by simp; omega
    have HF : Hid (fil (s1.W.take j) i = fil s1.W i) := hid (by rw [HJ.out, List.take_length])
    rw [HF.out] at hO ⊢
    have hG1 := HG.out.bel hB.out
    have f1 := hG1.blk.frozen 1
    obtain ⟨y0, y1, -⟩ := hG1.cells
    have HN := hid (HG.out.setL' (fil s1.W i) (fun x hx => HG.out.ok.W x (List.mem_filter.1 hx).1) hO.out hB.out hA.out)
    clear hG1 hO hj hge HF hB hA HG
    have HOV : Hid (s1.over i l = { s1 with K := upd s1.K i (pad l), W := fil s1.W i }) := hid rfl
    generalize fil s1.W i = V at *
    as_aux_lemma =>
    go_upto_region 11 with fail
    generalize wr.setCell ⟨g, 1, none⟩ (.slice A V.length c) = w2 at *
    obtain ⟨y0, -, -⟩ := HN.out.1.cells
    clear f1 y1
    refine wp_region_held_drew (S := fun wx => wx.cell? ⟨g, 0, none⟩ = some (.slice (some ⟨kb, 0, none⟩) s1.n kc)) (by kernel_rfl) (by simpa using y0) (fun HS => ?_)
    have B3 : Hid (Below w2.heap.size w2 w2.drew) := hid ((Below.refl _ _).drew)
    generalize w2.drew = w3 at *
    obtain ⟨u0, u1⟩ := (HN.out.1.bel B3.out).keptCell HI.out
    refine qT 0 ?vq0 ?yq0 HS ?rq0
    case yq0 => refine qI fun wS hSw => ?_; go_simp; try with_reducible rfl
    try simp only [Act.put, zA]
    refine qT 1 ?vq1 ?yq1 HS ?rq1
    case yq1 => refine qI fun wS hSw => ?_; go_simp; try with_reducible rfl
    try simp only [Act.put, zA]
    refine qT 2 ?vq2 ?yq2 HS ?rq2
    case yq2 => refine qI fun wS hSw => ?_; go_simp; try with_reducible rfl
    try simp only [Act.put, zA]
    refine qT 3 ?vq3 ?yq3 HS ?rq3
    case yq3 => refine qI fun wS hSw => ?_; go_simp; try with_reducible rfl
    try simp only [Act.put, zA]
    refine qT 4 ?vq4 ?yq4 HS ?rq4
    case yq4 => refine qI fun wS hSw => ?_; go_simp; try with_reducible rfl
    try simp only [Act.put, zA]
    refine qT 5 ?vq5 ?yq5 HS ?rq5
    case yq5 => refine qI fun wS hSw => ?_; go_simp; try with_reducible rfl
    try simp only [Act.put, zA]
    refine qR 6 fun K hK => ?_
    go_simp
    refine (full_c l w3 HL.out).mono ?_
    rintro e wa ⟨rfl, rfl⟩
    refine hK.out _ _ HS (fun HS => ?_)
    clear hK K
    try simp only [Act.put, zA]
    refine qT 7 ?vq7 ?yq7 HS ?rq7
    case yq7 => refine qI fun wS hSw => ?_; go_simp; try with_reducible rfl
    try simp only [Act.put, zA]
    refine qR 8 fun K hK => ?_
    rw [if_pos (by rfl)]
    go_simp
    refine hK.out _ _ (by have h0 := ((HN.out.1.bel B3.out).setK (i := i) (pad_len l HL.out)).cells.1; simpa using h0) (fun HS => ?_)
    clear hK K
    try simp only [Act.put]
    refine qD ?_
    have HE : Hid (RDevAt (w3.setCell ⟨kb, i, none⟩ (.string (str (pad l)))) (fun j => F1 j ∨ (w1.heap.size ≤ j ∧ j < wr.heap.size)) g { s1 with K := upd s1.K i (pad l), W := V } kb kc A c) := hid ((HN.out.1.bel B3.out).setK (pad_len l HL.out))
    have HK : Hid (Kp F1 w1 (w3.setCell ⟨kb, i, none⟩ (.string (str (pad l))))) := hid ((HN.out.2.1.trans (Kp.ofBelow B3.out)).trans (Kp.setCell _ _ _ _ HN.out.2.2))
    clear HS u0 u1 HN y0
    generalize w3.setCell ⟨kb, i, none⟩ (.string (str (pad l))) = w4 at *
    go_wp2
    go_ret
    exact ⟨rfl, _, ⟨kb, kc, A, c, by rw [HOV.out]; exact HE.out⟩, HK.out, fun j hj => by rcases hj with e | e; exact .inl e; exact .inr e.1⟩
theorem Tryz.infoS : (Tryz.prog.info? 9).map (fun i => (i.zero, i.size, i.bytes)) = some (some (.string ⟨#[]⟩), 1, 16) := by kernel_rfl
theorem wp_append_s {op : Oper} {a : Act} {w : World} {K : Act → World → Prop} {Q : Exit → Act → World → Prop} (s x : Operand) (ho : op.op = .call { callee := .builtin .append, args := #[s, x], argTypes := #[78, 78] })
 (A : Option Addr) (n c : Nat) (xs : List Value) (hs : a.eval s = .slice A n c) (hown : w.ownsRow 0 9 1 (.slice A n c) n xs) (b : Nat) (hx : a.eval x = .slice (some ⟨b, 0, none⟩) 1 1)
 (u : Value) (hr : w.rangeAt b 0 [u]) (h1 : u.oneCell' = true) (hn : n ≤ 1000000)
 (h : ∀ A' c' w', w'.ownsRow 0 9 1 (.slice A' (n + 1) c') (n + 1) (xs ++ [u]) → w.grownBy w' (A.map (·.block)) → (∀ d, A'.map (·.block) = some d → A.map (·.block) = some d ∨ d = w.heap.size) → K (a.put op.dst (.slice A' (n + 1) c')) w') : op.wp Tryz.prog a w K Q := by
 obtain ⟨i, hi, hz0, hz1, hz2⟩ := info_parts Tryz.infoS
 obtain ⟨v', w', hrun, h2, h3, _, h5⟩ := run_append_own_at (P := Tryz.prog) w 0 78 op.type 9 i _ 1 16 Tryz.underlying78 hi hz0 hz1 hz2 rfl (by decide) _ n xs hown ⟨b, 0, none⟩ 1 1 [u] rfl (fun j u hu => by rw [add_plain]; exact hr j u hu) (by simpa using h1) (by unfold maxLen; omega) (by omega) (Nat.zero_le _)
 have hv : (Value.slice A n c).ownBlock = A.map (·.block) := by cases A <;> rfl
 obtain ⟨A', c', rfl⟩ : ∃ A' c', v' = .slice A' (n + 1) c' := by
  rcases h2.2 with ⟨_, h0⟩ | ⟨g, cap, cur, hv', _⟩
  · omega
  · exact ⟨_, _, hv'⟩
 have hv2 : (Value.slice A' (n + 1) c').ownBlock = A'.map (·.block) := by cases A' <;> rfl
 unfold Oper.wp execOp
 simp only [ho, resolve, invoke, builtin, Sem.run_bind, Sem.run_pure, Result.andThen_ok, List.map_toArray, List.map_cons, List.map_nil, hs, hx, hrun]
 rw [hv] at h3 h5
 rw [hv2] at h5
 exact h A' c' w' h2 h3 fun d hd => by
  rcases h5 with h5 | h5
  · exact .inl (h5 ▸ hd)
  · rw [h5] at hd; injection hd with hd; exact .inr hd.symm
theorem ksc_succ (n : Nat) (K : Bl) : ksc (n + 1) K = ksc n K ++ [.string (str (K n))] := by simp [ksc, List.range_succ]
structure RNew (w w1 : World) (g j : Nat) (A : Option Addr) (c : Nat) : Prop where
 blk : Blk w1 g 115 #[.slice A j c, .slice none 0 0, .int .i64 (-1)]
 kept : w1.ownsRow 0 9 1 (.slice A j c) j (ksc j zero)
 bel : Below w.heap.size w w1
 g0 : g = w.heap.size
 A0 : ∀ b, A.map (·.block) = some b → w.heap.size < b
theorem RNew.blk6 {w w2 w6 : World} {g j : Nat} {A : Option Addr} {c : Nat} (h : RNew w w2 g j A c) (hg : (w2.alloc (.cells #[.string (str (pad []))] 9)).grownBy w6 (A.map (·.block))) :
 Blk w6 g 115 #[.slice A j c, .slice none 0 0, .int .i64 (-1)] := by
 have h1 := h.blk.lt
 exact (h.blk.keep (((Below.refl w2.heap.size w2).alloc (nl _) _).block g h1)).keep (hg.block g (by simp; omega) (fun e => by have := h.A0 g e.symm; have := h.g0; omega))
theorem RNew.next {w w2 w6 : World} {g j : Nat} {A A6 : Option Addr} {c c6 : Nat} (h : RNew w w2 g j A c) (ho : w6.ownsRow 0 9 1 (.slice A6 (j + 1) c6) (j + 1) (ksc j zero ++ [.string (str (pad []))])) (hg : (w2.alloc (.cells #[.string (str (pad []))] 9)).grownBy w6 (A.map (·.block)))
 (hA : ∀ d, A6.map (·.block) = some d → A.map (·.block) = some d ∨ d = (w2.alloc (.cells #[.string (str (pad []))] 9)).heap.size) : RNew w (w6.setCell ⟨g, 0, none⟩ (.slice A6 (j + 1) c6)) g (j + 1) A6 c6 := by
 have h1 := h.blk.lt
 have h2 := h.bel.size
 have hA0 : ∀ b, A6.map (·.block) = some b → w.heap.size < b := fun b hb => by
  rcases hA b hb with e | e
  · exact h.A0 b e
  · simp at e; have := h.g0; omega
 have hg2 := grown_setCell w6 g 0 (.slice A6 (j + 1) c6)
 have e1 := h.g0
 refine ⟨(h.blk6 hg).store 0 _, ?_, ?_, h.g0, hA0⟩
 · rw [ksc_succ, show zero j = pad [] from rfl]
   exact own_keep ho fun b hb => hg2.block b (own_lt ho b hb) (by have := hA0 b hb; simp; omega)
 · refine ((h.bel.alloc h2 _).grown hg (by simp; omega) (fun k hk => by have := h.A0 k hk; omega)).grown hg2 (Nat.le_trans h2 (Nat.le_trans (by simp) hg.size)) (fun k hk => by injection hk with hk; omega)
theorem rnew_c (n : Nat) (w : World) (h1 : 1 ≤ n) (h2 : n ≤ 4096) :
 Calls Tryz.prog 14 #[.int .i64 (n : Int)] w fun e w' => ∃ g F, e = .returned (.pointer (some ⟨g, 0, none⟩)) ∧ RDev w' F g (St.new n) ∧ Below w.heap.size w w' ∧ ∀ j, F j → w.heap.size ≤ j := by
 have H1 := hid h1
 have H2 := hid h2
 clear h1 h2
 have B0 : Hid (RNew w (w.alloc (.cells #[.slice none 0 0, .slice none 0 0, .int .i64 (-1)] 115)) w.heap.size 0 none 0) := hid ⟨Blk.new _ _ _, ⟨rfl, .inl ⟨rfl, rfl⟩⟩, (Below.refl _ _).alloc (nl _) _, rfl, fun b hb => by cases hb⟩
 go_enter Tryz.func14, Tryz.ntmps14
 go_wp2_with fail
 generalize w.alloc (.cells #[.slice none 0 0, .slice none 0 0, .int .i64 (-1)] 115) = w1 at *
 generalize hg : w.heap.size = g at *
 have HGE := hid hg
 clear hg
 go_loopw [4] (fun iv wr => ∃ (j : Nat) (A : Option Addr) (c : Nat), iv = .int .i64 (j : Int) ∧ Hid (j ≤ n) ∧ Hid (RNew w wr g j A c)) (fun iv _ => n - (intOf iv).toNat)
 case atStart => exact ⟨0, none, 0, rfl, hid (Nat.zero_le _), B0⟩
 case round =>
  obtain ⟨j, A, c, rfl, hj, hN⟩ := hrel
  clear B0
  rcases Nat.lt_or_ge j n with hlt | hge
  · have HLT := hid hlt
    have j3 : decide ((j : Int) < (n : Int)) = true := by simpa using hlt
    have j4 : decide (j < n) = true := by simpa using hlt
    have wj : wrap64 ((j : Int) + 1) = ((j + 1 : Nat) : Int) := by have := H2.out; unfold wrap64; omega
    have x0 := hN.out.blk.cell 0
    simp at x0
    go_wp2_with fail
    refine wp_region_held_drew (S := fun _ => True) (by kernel_rfl) trivial (fun HS => ?_)
    have HN1 : Hid (RNew w wr.drew g j A c) := hid ⟨hN.out.blk, own_keep hN.out.kept (fun _ _ => rfl), hN.out.bel.drew, hN.out.g0, hN.out.A0⟩
    clear hN x0
    generalize wr.drew = w2 at *
    have x0 := HN1.out.blk.cell 0
    simp at x0
    have O3 : Hid ((w2.alloc (.cells #[.string (str (pad []))] 9)).ownsRow 0 9 1 (.slice A j c) j (ksc j zero)) := hid (own_keep HN1.out.kept fun b hb => ((Below.refl w2.heap.size w2).alloc (nl _) _).block b (own_lt HN1.out.kept b hb))
    have R3 : Hid ((w2.alloc (.cells #[.string (str (pad []))] 9)).rangeAt w2.heap.size 0 [.string (str (pad []))]) := hid (fun t v hv => by
     rw [(Blk.new w2 9 #[.string (str (pad []))]).cell, Nat.zero_add]
     rw [show (#[.string (str (pad []))] : Array Value) = ([.string (str (pad []))] : List Value).toArray from rfl, List.getElem?_toArray]
     exact hv)
    have x9 : (w2.alloc (.cells #[.string (str (pad []))] 9)).cell? ⟨g, 0, none⟩ = some (.slice A j c) := (World.cell?_of_block (((Below.refl w2.heap.size w2).alloc (nl _) _).block g HN1.out.blk.lt)).trans x0
    refine qT 0 ?v0 ?y0 HS ?r0
    case y0 => refine qI fun wS hSw => ?_; go_simp; try with_reducible rfl
    try simp only [Act.put, zA]
    refine qT 1 ?v1 ?y1 HS ?r1
    case y1 => refine qI fun wS hSw => ?_; go_simp; try with_reducible rfl
    try simp only [Act.put, zA]
    refine qT 2 ?v2 ?y2 HS ?r2
    case y2 => refine qI fun wS hSw => ?_; go_simp; try with_reducible rfl
    try simp only [Act.put, zA]
    refine qT 3 ?v3 ?y3 HS ?r3
    case y3 => refine qI fun wS hSw => ?_; go_simp; try with_reducible rfl
    try simp only [Act.put, zA]
    refine wpAnyH_ready (rs := [4, 5]) (by kernel_rfl) (by simp) ?_
    refine (AllReadyH.cons (o := ?o4) ?ho4 (fun K hK => ?step4) (AllReadyH.cons (o := ?o5) ?ho5 (fun K hK => ?step5) AllReadyH.nil))
    case ho4 => simp only [zD, zE, zF]; exact rfl
    case ho5 => simp only [zD, zE, zF]; exact rfl
    case step4 =>
     go_simp
     refine hK.out _ _ trivial (fun HS => ?_)
     clear hK K
     try simp only [Act.put, zA]
     refine qR 5 fun K hK => ?_
     go_simp
     refine (full_c [] w2 (by decide)).mono ?_
     rintro e wa ⟨rfl, rfl⟩
     refine hK.out _ _ trivial (fun HS => ?_)
     clear hK K
     try simp only [Act.put, zA]
     refine qR 6 fun K hK => ?_
     go_simp
     refine hK.out _ _ trivial (fun HS => ?_)
     clear hK K
     try simp only [Act.put, zA]
     refine qR 7 fun K hK => ?_
     rw [if_pos (by rfl)]
     refine wp_append_s _ _ rfl A j c (ksc j zero) rfl O3.out w2.heap.size rfl (.string (str (pad []))) R3.out rfl (by have := HLT.out; have := H2.out; omega) ?_
     intro A6 c6 w6 ho6 hg6 hA6
     have HN6 : Hid (RNew w (w6.setCell ⟨g, 0, none⟩ (.slice A6 (j + 1) c6)) g (j + 1) A6 c6) := hid (HN1.out.next ho6 hg6 hA6)
     have f6 := (HN1.out.blk6 hg6).frozen 0
     have x6 := (HN1.out.blk6 hg6).cell 0
     simp at x6
     clear ho6 hg6 hA6 O3 R3 HN1 x0 x9
     refine hK.out _ _ trivial (fun HS => ?_)
     clear hK K
     try simp only [Act.put, zA]
     refine qT 8 ?va8 ?ya8 HS ?ra8
     case ya8 => refine qI fun wS hSw => ?_; go_simp; try with_reducible rfl
     try simp only [Act.put, zA]
     refine qT 9 ?va9 ?ya9 HS ?ra9
     case ya9 => refine qI fun wS hSw => ?_; go_simp; try with_reducible rfl
     try simp only [Act.put, zA]
     refine qR 10 fun K hK => ?_
     rw [if_pos (by rfl)]
     go_simp
     refine hK.out _ _ trivial (fun HS => ?_)
     clear hK K
     try simp only [Act.put]
     refine qD ?_
     generalize w6.setCell ⟨g, 0, none⟩ (.slice A6 (j + 1) c6) = w7 at *
     go_wp2
     exact ⟨⟨j + 1, A6, c6, congrArg (Value.int .i64) (by first | exact wj | omega), hid HLT.out, HN6⟩, by (try rw [wj]); have := HLT.out; simp [intOf]; omega⟩
    case step5 =>
     go_simp
     refine (full_c [] w2 (by decide)).mono ?_
     rintro e wa ⟨rfl, rfl⟩
     refine hK.out _ _ trivial (fun HS => ?_)
     clear hK K
     try simp only [Act.put, zA]
     refine wpAnyH_ready (rs := [4, 6]) (by kernel_rfl) (by simp) ?_
     refine (AllReadyH.cons (o := ?oc4) ?hoc4 (fun K hK => ?stepc4) (AllReadyH.cons (o := ?oc6) ?hoc6 (fun K hK => ?stepc6) AllReadyH.nil))
     case hoc4 => simp only [zD, zE, zF]; exact rfl
     case hoc6 => simp only [zD, zE, zF]; exact rfl
     case stepc4 =>
      go_simp
      refine hK.out _ _ trivial (fun HS => ?_)
      clear hK K
      try simp only [Act.put, zA]
      refine qR 6 fun K hK => ?_
      go_simp
      refine hK.out _ _ trivial (fun HS => ?_)
      clear hK K
      try simp only [Act.put, zA]
      refine qR 7 fun K hK => ?_
      rw [if_pos (by rfl)]
      refine wp_append_s _ _ rfl A j c (ksc j zero) rfl O3.out w2.heap.size rfl (.string (str (pad []))) R3.out rfl (by have := HLT.out; have := H2.out; omega) ?_
      intro A6 c6 w6 ho6 hg6 hA6
      have HN6 : Hid (RNew w (w6.setCell ⟨g, 0, none⟩ (.slice A6 (j + 1) c6)) g (j + 1) A6 c6) := hid (HN1.out.next ho6 hg6 hA6)
      have f6 := (HN1.out.blk6 hg6).frozen 0
      have x6 := (HN1.out.blk6 hg6).cell 0
      simp at x6
      clear ho6 hg6 hA6 O3 R3 HN1 x0 x9
      refine hK.out _ _ trivial (fun HS => ?_)
      clear hK K
      try simp only [Act.put, zA]
      refine qT 8 ?vb8 ?yb8 HS ?rb8
      case yb8 => refine qI fun wS hSw => ?_; go_simp; try with_reducible rfl
      try simp only [Act.put, zA]
      refine qT 9 ?vb9 ?yb9 HS ?rb9
      case yb9 => refine qI fun wS hSw => ?_; go_simp; try with_reducible rfl
      try simp only [Act.put, zA]
      refine qR 10 fun K hK => ?_
      rw [if_pos (by rfl)]
      go_simp
      refine hK.out _ _ trivial (fun HS => ?_)
      clear hK K
      try simp only [Act.put]
      refine qD ?_
      generalize w6.setCell ⟨g, 0, none⟩ (.slice A6 (j + 1) c6) = w7 at *
      go_wp2
      exact ⟨⟨j + 1, A6, c6, congrArg (Value.int .i64) (by first | exact wj | omega), hid HLT.out, HN6⟩, by (try rw [wj]); have := HLT.out; simp [intOf]; omega⟩
     case stepc6 =>
      go_simp
      refine hK.out _ _ trivial (fun HS => ?_)
      clear hK K
      try simp only [Act.put, zA]
      refine qR 4 fun K hK => ?_
      go_simp
      refine hK.out _ _ trivial (fun HS => ?_)
      clear hK K
      try simp only [Act.put, zA]
      refine qR 7 fun K hK => ?_
      rw [if_pos (by rfl)]
      refine wp_append_s _ _ rfl A j c (ksc j zero) rfl O3.out w2.heap.size rfl (.string (str (pad []))) R3.out rfl (by have := HLT.out; have := H2.out; omega) ?_
      intro A6 c6 w6 ho6 hg6 hA6
      have HN6 : Hid (RNew w (w6.setCell ⟨g, 0, none⟩ (.slice A6 (j + 1) c6)) g (j + 1) A6 c6) := hid (HN1.out.next ho6 hg6 hA6)
      have f6 := (HN1.out.blk6 hg6).frozen 0
      have x6 := (HN1.out.blk6 hg6).cell 0
      simp at x6
      clear ho6 hg6 hA6 O3 R3 HN1 x0 x9
      refine hK.out _ _ trivial (fun HS => ?_)
      clear hK K
      try simp only [Act.put, zA]
      refine qT 8 ?vd8 ?yd8 HS ?rd8
      case yd8 => refine qI fun wS hSw => ?_; go_simp; try with_reducible rfl
      try simp only [Act.put, zA]
      refine qT 9 ?vd9 ?yd9 HS ?rd9
      case yd9 => refine qI fun wS hSw => ?_; go_simp; try with_reducible rfl
      try simp only [Act.put, zA]
      refine qR 10 fun K hK => ?_
      rw [if_pos (by rfl)]
      go_simp
      refine hK.out _ _ trivial (fun HS => ?_)
      clear hK K
      try simp only [Act.put]
      refine qD ?_
      generalize w6.setCell ⟨g, 0, none⟩ (.slice A6 (j + 1) c6) = w7 at *
      go_wp2
      exact ⟨⟨j + 1, A6, c6, congrArg (Value.int .i64) (by first | exact wj | omega), hid HLT.out, HN6⟩, by (try rw [wj]); have := HLT.out; simp [intOf]; omega⟩
  · have HJ : Hid (j = n) := hid (by have := hj.out; omega)
    have j3 : decide ((j : Int) < (n : Int)) = false := by simp; omega
    have j4 : decide (j < n) = false := by simp; omega
    go_wp2
    go_ret
    have hN' := hN.out
    rw [HJ.out] at hN'
    obtain ⟨kb, rfl, hlt, -⟩ := own_range hN'.kept (by have := H1.out; omega)
    have hA := hN'.A0 kb rfl
    have hgw := hN'.g0
    have hgl := hN'.blk.lt
    exact ⟨g, fun j => w.heap.size ≤ j ∧ j < wr.heap.size, rfl, ⟨kb, c, none, 0, hN'.blk, hN'.kept, ⟨rfl, .inl ⟨rfl, rfl⟩⟩, by omega, by omega, fun b hb => (by cases hb), by omega, fun j hj => hj.2, St.ok_new H1.out H2.out⟩, HGE.out ▸ hN'.bel, fun j hj => by have := hj.1; have := HGE.out; omega⟩
instance (s : St) (i : Int) (n : Nat) : Decidable (bad s i n) := by unfold bad; exact inferInstance
theorem RLeft.same {w : World} {F : Nat → Prop} {g : Nat} {s : St} (h : RDev w F g s) : RLeft w w F g s := ⟨F, h, Kp.refl _ _, fun _ hj => .inl hj⟩
theorem rread_any (w : World) (F : Nat → Prop) (g : Nat) (s : St) (h : RDev w F g s) (i : Int) (hW : s.W.length ≤ 1000000) :
 Calls Tryz.prog 25 #[.pointer (some ⟨g, 0, none⟩), .int .i64 i] w fun e w' => e = .returned (.tuple #[.string (str (rdB s i)), .int .i64 (rdE s i)]) ∧ w = w' := by
 by_cases hb : bad s i 0
 · refine (rread_bad w F g s h i hb).mono ?_
   rintro e w' ⟨rfl, rfl⟩
   exact ⟨by rw [rdE, rdB, if_pos hb, if_pos (.inl hb)], rfl⟩
 · by_cases ho : s.lim = some 0
   · refine (rread_off w F g s h i hb ho).mono ?_
     rintro e w' ⟨rfl, rfl⟩
     exact ⟨by rw [rdE, rdB, if_neg hb, if_pos ho, if_pos (.inr ho)], rfl⟩
   · obtain ⟨h1, h2, _⟩ := nbad hb
     have := rread_c w F g s h i.toNat h2 ho hW
     rw [← h1] at this
     refine this.mono ?_
     rintro e w' ⟨rfl, rfl⟩
     exact ⟨by rw [rdE, rdB, if_neg hb, if_neg ho, if_neg (by rintro (e | e); exact hb e; exact ho e)], rfl⟩
theorem rwrite_any (w : World) (F : Nat → Prop) (g : Nat) (s : St) (h : RDev w F g s) (i : Int) (l : List UInt8) (hW : s.W.length ≤ 100000) :
 Calls Tryz.prog 99 #[.pointer (some ⟨g, 0, none⟩), .int .i64 i, .string (str l)] w fun e w' => e = .returned (.int .i64 (wrE s i l.length)) ∧ RLeft w w' F g (wrS s i l) := by
 by_cases hb : bad s i l.length
 · refine (rwrite_bad w F g s h i l hb).mono ?_
   rintro e w' ⟨rfl, rfl⟩
   exact ⟨by rw [wrE, if_pos hb], by rw [wrS, if_pos (.inl hb)]; exact .same h⟩
 · by_cases ho : s.lim = some 0
   · refine (rwrite_off w F g s h i l hb ho).mono ?_
     rintro e w' ⟨rfl, rfl⟩
     exact ⟨by rw [wrE, caE, if_neg hb, if_pos ho], by rw [wrS, if_pos (.inr ho)]; exact .same h⟩
   · obtain ⟨h1, h2, h3⟩ := nbad hb
     have := rwrite_c w F g s h i.toNat h2 l h3 ho hW
     rw [← h1] at this
     refine this.mono ?_
     rintro e w' ⟨rfl, hL⟩
     exact ⟨by rw [wrE, caE, if_neg hb, if_neg ho], by rw [wrS, if_neg (by rintro (e | e); exact hb e; exact ho e)]; exact hL⟩
theorem rsync_any (w : World) (F : Nat → Prop) (g : Nat) (s : St) (h : RDev w F g s) (hW : s.W.length ≤ 100000) :
 Calls Tryz.prog 101 #[.pointer (some ⟨g, 0, none⟩)] w fun e w' => e = .returned (.int .i64 (caE s)) ∧ RLeft w w' F g (syS s) := by
 by_cases ho : s.lim = some 0
 · refine (rsync_off w F g s h ho).mono ?_
   rintro e w' ⟨rfl, rfl⟩
   exact ⟨by rw [caE, if_pos ho], by rw [syS, if_pos ho]; exact .same h⟩
 · refine (rsync_c w F g s h ho (by omega)).mono ?_
   rintro e w' ⟨rfl, hL⟩
   exact ⟨by rw [caE, if_neg ho], by rw [syS, if_neg ho]; exact hL⟩
theorem rbeat_any (w : World) (F : Nat → Prop) (g : Nat) (s : St) (h : RDev w F g s) :
 Calls Tryz.prog 102 #[.pointer (some ⟨g, 0, none⟩)] w fun e w' => e = .returned (.int .i64 (caE s)) ∧ RLeft w w' F g (beS s) := by
 by_cases ho : s.lim = some 0
 · refine (rbeat_off w F g s h ho).mono ?_
   rintro e w' ⟨rfl, rfl⟩
   exact ⟨by rw [caE, if_pos ho], by rw [beS, if_pos ho]; exact .same h⟩
 · refine (rbeat_on w F g s h ho).mono ?_
   rintro e w' ⟨rfl, hL⟩
   exact ⟨by rw [caE, if_neg ho], by rw [beS, if_neg ho]; exact hL⟩
theorem rover_any (w : World) (F : Nat → Prop) (g : Nat) (s : St) (h : RDev w F g s) (i : Int) (l : List UInt8) (hW : s.W.length ≤ 100000) :
 Calls Tryz.prog 23 #[.pointer (some ⟨g, 0, none⟩), .int .i64 i, .string (str l)] w fun e w' => e = .returned (.int .i64 (ovE s i l.length)) ∧ RLeft w w' F g (ovS s i l) := by
 by_cases hb : bad s i l.length
 · refine (rover_bad w F g s h i l hb).mono ?_
   rintro e w' ⟨rfl, rfl⟩
   exact ⟨by rw [ovE, if_pos hb], by rw [ovS, if_pos hb]; exact .same h⟩
 · obtain ⟨h1, h2, h3⟩ := nbad hb
   have := rover_c w F g s h i.toNat h2 l h3 hW
   rw [← h1] at this
   refine this.mono ?_
   rintro e w' ⟨rfl, hL⟩
   exact ⟨by rw [ovE, if_neg hb], by rw [ovS, if_neg hb]; exact hL⟩
end Go.Proofs.YtolaojkcofbkhaaGreat
