import Derived.Test.YtolaojkcofbkhaaGreatDvMath
import Derived.Test.YtolaojkcofbkhaaGreatMem
import Derived.Deep.RegionHeld
import Derived.Deep.Cut
import Derived.Great.BuildSlice
namespace Go.Proofs.YtolaojkcofbkhaaGreat
set_option maxRecDepth 100000
set_option maxHeartbeats 4000000
open Go.RowKit
structure Rows (w : World) (k n : Nat) (K : Bl) : Prop where
 lt : k < w.heap.size
 row : ∀ i, i < n → w.rangeAt k (i * 16) (bs (K i))
 there : w.there k 0 (16 * n)
theorem there_part {w : World} {b n : Nat} (h : w.there b 0 (16 * n)) {i : Nat} (hi : i < n) : w.there b (i * 16) 16 := fun j hj => by
 have := h (i * 16 + j) (by omega)
 rwa [Nat.zero_add] at this
theorem Rows.keep {w w' : World} {k n : Nat} {K : Bl} (h : Rows w k n K) (hs : w.heap.size ≤ w'.heap.size) (hk : w'.heap[k]? = w.heap[k]?) : Rows w' k n K :=
 ⟨Nat.lt_of_lt_of_le h.lt hs, fun i hi => rangeAt_keep (h.row i hi) hk, there_keep h.there hk⟩
theorem Rows.same {w : World} {k n : Nat} {K K' : Bl} (h : Rows w k n K) (e : ∀ i, i < n → K' i = K i) : Rows w k n K' := ⟨h.lt, fun i hi => by rw [e i hi]; exact h.row i hi, h.there⟩
theorem Rows.put {w : World} {k n : Nat} {K : Bl} (h : Rows w k n K) (hK : ∀ i, (K i).length = 16) {i : Nat} (hi : i < n) {b : List UInt8} (hb : b.length = 16) : Rows (w.setCells k (i * 16) (bs b)) k n (upd K i b) := by
 refine ⟨by simpa using Nat.lt_of_lt_of_le h.lt (grown_setCells k (bs b) (i * 16) w).size, fun j hj => ?_, World.there_setCells h.there _ _ _⟩
 by_cases e : j = i
 · subst e
   rw [upd_same]
   exact World.rangeAt_setCells_same _ _ _ _ (by rw [bs_len, hb]; exact there_part h.there hi)
 · rw [upd_other _ _ e]
   exact World.rangeAt_setCells_apart (h.row j hj) _ _ _ (.inr (by rw [bs_len, bs_len, hb, hK]; omega))
theorem Rows.other {w : World} {k n : Nat} {K : Bl} (h : Rows w k n K) {b : Nat} (hb : k ≠ b) (o : Nat) (vs : List Value) : Rows (w.setCells b o vs) k n K :=
 h.keep (grown_setCells b vs o w).size ((grown_setCells b vs o w).block k h.lt fun e => hb (by injection e with e))
def wcs (W : Wr) : List Value := W.flatMap fun x => .int .i64 (x.1 : Int) :: bs x.2
theorem wcs_app (a b : Wr) : wcs (a ++ b) = wcs a ++ wcs b := by simp [wcs]
theorem wcs_one (i : Nat) (b : List UInt8) : wcs [(i, b)] = .int .i64 (i : Int) :: bs b := by simp [wcs]
theorem wcs_len (W : Wr) (h : ∀ x ∈ W, x.2.length = 16) : (wcs W).length = W.length * 17 := by
 induction W with
 | nil => rfl
 | cons x r ih =>
  have h1 := h x (by simp)
  have h2 := ih fun y hy => h y (by simp [hy])
  show (.int .i64 (x.1 : Int) :: bs x.2 ++ wcs r).length = _
  simp [h2, bs_len, h1]
  omega
theorem wcs_at (W : Wr) (h : ∀ x ∈ W, x.2.length = 16) {j : Nat} (hj : j < W.length) : ∀ t u, (.int .i64 (W[j].1 : Int) :: bs W[j].2)[t]? = some u → (wcs W)[j * 17 + t]? = some u := by
 intro t u hu
 have e : wcs W = wcs (W.take j) ++ ((.int .i64 (W[j].1 : Int) :: bs W[j].2) ++ wcs (W.drop (j + 1))) := by
  conv => lhs; rw [show W = W.take j ++ (W[j] :: W.drop (j + 1)) by simp]
  rw [wcs_app]
  rfl
 have hl : (wcs (W.take j)).length = j * 17 := by
  rw [wcs_len _ fun x hx => h x (List.mem_of_mem_take hx)]
  simp
  omega
 have ht := (List.getElem?_eq_some_iff.1 hu).1
 rw [e, List.getElem?_append_right (by omega), List.getElem?_append_left (by rw [hl]; simp only [Nat.add_sub_cancel_left]; exact ht)]
 rw [hl, Nat.add_sub_cancel_left]
 exact hu
structure DevAt (w : World) (F : Nat → Prop) (g : Nat) (s : St) (k q : Nat) (A : Option Addr) (c : Nat) : Prop where
 blk : Blk w g 108 #[.slice (some ⟨k, 0, none⟩) s.n s.n, .slice (some ⟨q, 0, none⟩) s.n s.n, .slice A s.W.length c, .bool s.lim.isSome, .int .i64 ((s.lim.getD 0 : Nat) : Int)]
 kept : Rows w k s.n s.K
 seen : Rows w q s.n (app s.W s.K)
 wait : w.ownsRow 0 143 17 (.slice A s.W.length c) s.W.length (wcs s.W)
 gk : g ≠ k
 gq : g ≠ q
 kq : k ≠ q
 Ag : ∀ b, A.map (·.block) = some b → b ≠ g ∧ b ≠ k ∧ b ≠ q ∧ F b
 Fg : F g
 Fk : F k
 Fq : F q
 F : ∀ j, F j → j < w.heap.size
 ok : s.ok
def Dev (w : World) (F : Nat → Prop) (g : Nat) (s : St) : Prop := ∃ k q A c, DevAt w F g s k q A c
theorem Dev.keep {w w' : World} {F : Nat → Prop} {g : Nat} {s : St} (h : Dev w F g s) (hs : w.heap.size ≤ w'.heap.size) (hk : ∀ j, F j → w'.heap[j]? = w.heap[j]?) : Dev w' F g s := by
 obtain ⟨k, q, A, c, h⟩ := h
 exact ⟨k, q, A, c, h.blk.keep (hk g h.Fg), h.kept.keep hs (hk k h.Fk), h.seen.keep hs (hk q h.Fq), own_keep h.wait fun b hb => hk b (h.Ag b hb).2.2.2, h.gk, h.gq, h.kq, h.Ag, h.Fg, h.Fk, h.Fq, fun j hj => Nat.lt_of_lt_of_le (h.F j hj) hs, h.ok⟩
theorem Dev.lt {w : World} {F : Nat → Prop} {g : Nat} {s : St} (h : Dev w F g s) : ∀ j, F j → j < w.heap.size := by
 obtain ⟨k, q, A, c, h⟩ := h
 exact h.F
theorem Dev.ok {w : World} {F : Nat → Prop} {g : Nat} {s : St} (h : Dev w F g s) : s.ok := by
 obtain ⟨k, q, A, c, h⟩ := h
 exact h.ok
theorem Dev.bel {w w' : World} {F : Nat → Prop} {g : Nat} {s : St} (h : Dev w F g s) (hb : Below w.heap.size w w') : Dev w' F g s := h.keep hb.size fun j hj => hb.block j (h.lt j hj)
def Left (w w' : World) (F : Nat → Prop) (g : Nat) (s : St) : Prop := ∃ F' : Nat → Prop, Dev w' F' g s ∧ Kp F w w' ∧ ∀ j, F' j → F j ∨ w.heap.size ≤ j
theorem DevAt.cells {w : World} {F : Nat → Prop} {g : Nat} {s : St} {k q c : Nat} {A : Option Addr} (h : DevAt w F g s k q A c) :
 w.cell? ⟨g, 0, none⟩ = some (.slice (some ⟨k, 0, none⟩) s.n s.n) ∧ w.cell? ⟨g, 1, none⟩ = some (.slice (some ⟨q, 0, none⟩) s.n s.n) ∧ w.cell? ⟨g, 2, none⟩ = some (.slice A s.W.length c) ∧ w.cell? ⟨g, 3, none⟩ = some (.bool s.lim.isSome) ∧ w.cell? ⟨g, 4, none⟩ = some (.int .i64 ((s.lim.getD 0 : Nat) : Int)) := by
 have h0 := h.blk.cell 0
 have h1 := h.blk.cell 1
 have h2 := h.blk.cell 2
 have h3 := h.blk.cell 3
 have h4 := h.blk.cell 4
 simp at h0 h1 h2 h3 h4
 exact ⟨h0, h1, h2, h3, h4⟩
theorem off_c (w : World) (F : Nat → Prop) (g : Nat) (s : St) (h : Dev w F g s) :
 Calls Tryz.prog 65 #[.pointer (some ⟨g, 0, none⟩)] w fun e w' => e = .returned (.bool (decide (s.lim = some 0))) ∧ w = w' := by
 obtain ⟨k, q, A, c, h⟩ := h
 obtain ⟨-, -, -, h3, h4⟩ := h.cells
 clear h
 go_enter Tryz.func65, Tryz.ntmps65
 rcases hl : s.lim with _ | _ | m
 · rw [hl] at h3 h4
   simp at h3 h4
   go_wp2
   go_ret
   exact ⟨rfl, rfl⟩
 · rw [hl] at h3 h4
   simp at h3 h4
   go_wp2
   go_ret
   exact ⟨rfl, rfl⟩
 · rw [hl] at h3 h4
   simp at h3 h4
   have e1 : ((m : Int) + 1 == 0) = false := by simp; omega
   go_wp2
   go_ret
   exact ⟨by simp, rfl⟩
theorem blocks_c (w : World) (F : Nat → Prop) (g : Nat) (s : St) (h : Dev w F g s) :
 Calls Tryz.prog 45 #[.pointer (some ⟨g, 0, none⟩)] w fun e w' => e = .returned (.int .i64 (s.n : Int)) ∧ w = w' := by
 obtain ⟨k, q, A, c, h⟩ := h
 obtain ⟨h0, -⟩ := h.cells
 clear h
 go_enter Tryz.func45, Tryz.ntmps45
 go_wp2
 go_ret
 exact ⟨rfl, rfl⟩
def bad (s : St) (i : Int) (n : Nat) : Prop := i < 0 ∨ (s.n : Int) ≤ i ∨ 16 < n
instance (s : St) (i : Int) (n : Nat) : Decidable (bad s i n) := inferInstanceAs (Decidable (_ ∨ _))
theorem wrong_bad (w : World) (F : Nat → Prop) (g : Nat) (s : St) (h : Dev w F g s) (i : Int) (A : Option Addr) (n c : Nat) (hb : bad s i n) :
 Calls Tryz.prog 60 #[.pointer (some ⟨g, 0, none⟩), .int .i64 i, .slice A n c] w fun e w' => e = .returned (.int .i64 2) ∧ w = w' := by
 obtain ⟨k, q, A', c', h⟩ := h
 obtain ⟨h0, -⟩ := h.cells
 clear h
 go_enter Tryz.func60, Tryz.ntmps60
 by_cases h1 : i < 0
 · have e1 : decide (i < 0) = true := by simpa using h1
   clear hb h1
   go_wp2
   go_ret
   exact ⟨rfl, rfl⟩
 · have e1 : decide (i < 0) = false := by simpa using h1
   by_cases h2 : (s.n : Int) ≤ i
   · have e2 : decide (i ≥ (s.n : Int)) = true := by simpa using h2
     have e3 : decide ((s.n : Int) ≤ i) = true := by simpa using h2
     clear hb h1 h2
     go_wp2
     go_ret
     exact ⟨rfl, rfl⟩
   · have h3 : 16 < n := by rcases hb with hb | hb | hb; exact absurd hb h1; exact absurd hb h2; exact hb
     have e2 : decide (i ≥ (s.n : Int)) = false := by simpa using h2
     have e3 : decide ((s.n : Int) ≤ i) = false := by simpa using h2
     have e4 : decide ((16 : Int) < (n : Int)) = true := by simp; omega
     clear hb h1 h2 h3
     go_wp2
     go_ret
     exact ⟨rfl, rfl⟩
theorem wrong_ok (w : World) (F : Nat → Prop) (g : Nat) (s : St) (h : Dev w F g s) (i : Int) (A : Option Addr) (n c : Nat) (hb : ¬ bad s i n) :
 Calls Tryz.prog 60 #[.pointer (some ⟨g, 0, none⟩), .int .i64 i, .slice A n c] w fun e w' => e = .returned (.int .i64 0) ∧ w = w' := by
 obtain ⟨k, q, A', c', h⟩ := h
 obtain ⟨h0, -⟩ := h.cells
 clear h
 have e1 : decide (i < 0) = false := by simp; exact Int.not_lt.1 fun e => hb (.inl e)
 have e3 : decide ((s.n : Int) ≤ i) = false := by simp; exact Int.not_le.1 fun e => hb (.inr (.inl e))
 have e4 : decide ((16 : Int) < (n : Int)) = false := decide_eq_false fun e => hb (.inr (.inr (by omega)))
 clear hb
 go_enter Tryz.func60, Tryz.ntmps60
 go_wp2
 go_ret
 exact ⟨rfl, rfl⟩
theorem DevAt.left {w : World} {F : Nat → Prop} {g : Nat} {s : St} {k q c : Nat} {A : Option Addr} (h : DevAt w F g s k q A c) (l : Option Nat) (hl : ∀ d, l = some d → d ≤ 9223372036854775807) {w' : World} (hw : w.grownBy w' (some g))
 (hb : Blk w' g 108 #[.slice (some ⟨k, 0, none⟩) s.n s.n, .slice (some ⟨q, 0, none⟩) s.n s.n, .slice A s.W.length c, .bool l.isSome, .int .i64 ((l.getD 0 : Nat) : Int)]) : Left w w' F g { s with lim := l } :=
 ⟨F, ⟨k, q, A, c, hb, h.kept.keep hw.size (hw.block k h.kept.lt (by simpa using Ne.symm h.gk)), h.seen.keep hw.size (hw.block q h.seen.lt (by simpa using Ne.symm h.gq)),
  own_keep h.wait fun b hb => hw.block b (own_lt h.wait b hb) (by simpa using (h.Ag b hb).1), h.gk, h.gq, h.kq, h.Ag, h.Fg, h.Fk, h.Fq, fun j hj => Nat.lt_of_lt_of_le (h.F j hj) hw.size, ⟨h.ok.n1, h.ok.n2, h.ok.K, h.ok.W, hl⟩⟩,
  Kp.grown hw fun j hj => by injection hj with hj; subst hj; exact .inl h.Fg, fun j hj => .inl hj⟩
theorem count_off (w : World) (F : Nat → Prop) (g : Nat) (s : St) (h : Dev w F g s) (ho : s.lim = some 0) :
 Calls Tryz.prog 139 #[.pointer (some ⟨g, 0, none⟩)] w fun e w' => e = .returned (.int .i64 40) ∧ w = w' := by
 have hoff := off_c w F g s h
 have e : decide (s.lim = some 0) = true := by simpa using ho
 rw [e] at hoff
 clear h ho e
 go_enter Tryz.func139, Tryz.ntmps139
 go_wp2_with fail
 refine hoff.mono ?_
 rintro e w' ⟨rfl, rfl⟩
 go_wp2
 go_ret
 exact ⟨rfl, rfl⟩
theorem count_on (w : World) (F : Nat → Prop) (g : Nat) (s : St) (h : Dev w F g s) (ho : s.lim ≠ some 0) :
 Calls Tryz.prog 139 #[.pointer (some ⟨g, 0, none⟩)] w fun e w' => e = .returned (.int .i64 0) ∧ Left w w' F g s.dec := by
 have hoff := off_c w F g s h
 have e : decide (s.lim = some 0) = false := by simpa using ho
 rw [e] at hoff
 obtain ⟨k, q, A, c, h⟩ := h
 obtain ⟨-, -, -, h3, h4⟩ := h.cells
 have f4 := Blk.frozen h.blk 4
 have HL := hid (fun l hl w' => h.left l hl (w' := w'))
 have HB := hid h.blk
 rcases hl : s.lim with _ | m
 · rw [hl] at h3 h4
   simp at h3 h4
   have HE : Hid (s = s.dec) := hid (by unfold St.dec; rw [hl]; cases s; simp_all)
   have HD : Hid (Dev w F g s) := hid ⟨k, q, A, c, h⟩
   clear h ho e hl HL HB
   go_enter Tryz.func139, Tryz.ntmps139
   go_wp2_with fail
   refine hoff.mono ?_
   rintro e w' ⟨rfl, rfl⟩
   go_wp2
   go_ret
   exact ⟨rfl, F, by rw [← HE.out]; exact HD.out, Kp.refl _ _, fun j hj => .inl hj⟩
 · have hm : m ≤ 9223372036854775807 := h.ok.lim m hl
   obtain ⟨m, rfl⟩ : ∃ m', m = m' + 1 := ⟨m - 1, by have : m ≠ 0 := fun e => ho (by rw [hl, e]); omega⟩
   have e1 : wrap64 (m : Int) = (m : Int) := by unfold wrap64; omega
   have e2 : ((m + 1 : Nat) : Int) - 1 = (m : Int) := by omega
   rw [hl] at h3 h4
   simp only [Option.isSome_some, Option.getD_some] at h3 h4
   have HE : Hid ({ s with lim := some m } = s.dec) := hid (by unfold St.dec; rw [hl]; simp)
   have HM := hid hm
   have HW : Hid (Blk (w.setCell ⟨g, 4, none⟩ (.int .i64 (m : Int))) g 108 #[.slice (some ⟨k, 0, none⟩) s.n s.n, .slice (some ⟨q, 0, none⟩) s.n s.n, .slice A s.W.length c, .bool (some m).isSome, .int .i64 (((some m).getD 0 : Nat) : Int)]) := hid (by
    have := HB.out.store 4 (.int .i64 (m : Int))
    rw [hl] at this
    exact this)
   clear h ho e hl HB hm
   go_enter Tryz.func139, Tryz.ntmps139
   go_wp2_with fail
   refine hoff.mono ?_
   rintro e w' ⟨rfl, rfl⟩
   go_wp2
   go_ret
   refine ⟨rfl, ?_⟩
   have := HL.out (some m) (fun d hd => by injection hd with hd; have := HM.out; omega) _ (grown_setCell w g 4 _) HW.out
   rw [HE.out] at this
   exact this
theorem limit_c (w : World) (F : Nat → Prop) (g : Nat) (s : St) (h : Dev w F g s) (i : Int) (hi : i ≤ 9223372036854775807) :
 Calls Tryz.prog 20 #[.pointer (some ⟨g, 0, none⟩), .int .i64 i] w fun e w' => e = .returned (.tuple #[]) ∧ Left w w' F g (s.bound i) := by
 obtain ⟨k, q, A, c, h⟩ := h
 obtain ⟨-, -, -, h3, h4⟩ := h.cells
 have f3 := Blk.frozen h.blk 3
 have f4 := Blk.frozen h.blk 4
 have HL := hid (fun l hl w' => h.left l hl (w' := w'))
 have HB := hid h.blk
 have HI := hid hi
 clear h hi
 go_enter Tryz.func20, Tryz.ntmps20
 by_cases hi : i < 0
 · have hz : i.toNat = 0 := by omega
   have HZ := hid hz
   clear hz
   go_wp2
   go_end0
   refine ⟨rfl, HL.out (some i.toNat) (fun d hd => by injection hd with hd; have := HI.out; omega) _ ((grown_setCell w g 3 _).trans (grown_setCell _ g 4 _)) ?_⟩
   have := (HB.out.store 3 (.bool true)).store 4 (.int .i64 0)
   rw [HZ.out]
   exact this
 · have hz : ((i.toNat : Nat) : Int) = i := by omega
   have HZ := hid hz
   clear hz
   go_wp2
   go_end0
   refine ⟨rfl, HL.out (some i.toNat) (fun d hd => by injection hd with hd; have := HI.out; omega) _ ((grown_setCell w g 3 _).trans (grown_setCell _ g 4 _)) ?_⟩
   have := (HB.out.store 3 (.bool true)).store 4 (.int .i64 i)
   rw [show (((some i.toNat).getD 0 : Nat) : Int) = i from HZ.out]
   exact this
theorem beat_off (w : World) (F : Nat → Prop) (g : Nat) (s : St) (h : Dev w F g s) (ho : s.lim = some 0) :
 Calls Tryz.prog 130 #[.pointer (some ⟨g, 0, none⟩)] w fun e w' => e = .returned (.int .i64 40) ∧ w = w' := by
 have hc := count_off w F g s h ho
 clear h ho
 go_enter Tryz.func130, Tryz.ntmps130
 go_wp2_with fail
 refine hc.mono ?_
 rintro e w' ⟨rfl, rfl⟩
 go_wp2
 go_ret
 exact ⟨rfl, rfl⟩
theorem beat_on (w : World) (F : Nat → Prop) (g : Nat) (s : St) (h : Dev w F g s) (ho : s.lim ≠ some 0) :
 Calls Tryz.prog 130 #[.pointer (some ⟨g, 0, none⟩)] w fun e w' => e = .returned (.int .i64 0) ∧ Left w w' F g s.dec := by
 have hc := count_on w F g s h ho
 clear h ho
 go_enter Tryz.func130, Tryz.ntmps130
 go_wp2_with fail
 refine hc.mono ?_
 rintro e w' ⟨rfl, hL⟩
 have HL := hid hL
 clear hL
 go_wp2
 go_ret
 exact ⟨rfl, HL.out⟩
theorem Tryz.infoB : (Tryz.prog.info? 139).map (·.size) = some 16 := by kernel_rfl
theorem Tryz.undB : Tryz.prog.underlying 139 = some (.array 16 5) := by kernel_rfl
theorem run_copy16 (w : World) (ty : TypeId) (b cap : Nat) (A : Option Addr) (n c lo hi : Nat) (l : List UInt8) (hr : Bts w lo hi A n l) (hn : n ≤ 16) (ht : w.there b 0 16) :
 (Builtin.copy_ #[51, 51] ty #[.slice (some ⟨b, 0, none⟩) 16 cap, .slice A n c]).run Tryz.prog w = .ok (.int .i64 (n : Int)) (w.setCells b 0 (bs l)) := by
 have hi1 : (Tryz.prog.info? 5).map (·.size) = some 1 := by kernel_rfl
 rcases Nat.eq_zero_or_pos n with h0 | h0
 · subst h0
   have hl : l = [] := List.eq_nil_of_length_eq_zero hr.1
   subst hl
   exact run_copy_none w 51 51 ty 5 _ _ 16 cap 0 c Tryz.underlying51 hi1 (by decide)
 · obtain ⟨g, off, rfl, _, _, hc⟩ := hr.2 h0
   have hlen : (bs l).length = n := by rw [bs_len]; exact hr.1
   have := run_copy_cells (P := Tryz.prog) w 51 51 ty 5 b 0 16 cap ⟨g, off, none⟩ n c (bs l) Tryz.underlying51 hi1 (by rw [hlen]; exact (Nat.min_eq_left hn).symm) (fun j v hv => by rw [add_plain]; exact hc j v hv)
    (fun j hj => (ht j (by omega)).1) (fun j hj => (ht j (by omega)).2) (bs_one l)
   rw [hlen] at this
   exact this
theorem copied {w : World} {b : Nat} {l : List UInt8} (hl : l.length ≤ 16) (hz : w.rangeAt b 0 (bs (List.replicate 16 0))) : (w.setCells b 0 (bs l)).rangeAt b 0 (bs (pad l)) := by
 intro j v hv
 have hj : j < 16 := by have := (List.getElem?_eq_some_iff.1 hv).1; rwa [bs_len, pad_len l hl] at this
 by_cases h : j < l.length
 · rw [World.cell?_setCells_in b (bs l) 0 w (fun i hi => hz.isSome i (by rw [bs_len] at hi ⊢; simp; omega)) j (by rw [bs_len]; exact h), ← hv]
   have : (bs (pad l))[j]? = (bs l)[j]? := by unfold pad; rw [bs_app, List.getElem?_append_left (by rw [bs_len]; exact h)]
   rw [this]
   exact (List.getElem?_eq_getElem _).symm
 · rw [World.cell?_setCells_out b (bs l) 0 w ⟨b, 0 + j, none⟩ (fun _ _ => .inr (by rw [bs_len]; show 0 + l.length ≤ 0 + j; omega))]
   refine hz j v ?_
   rw [← hv]
   unfold pad
   rw [bs_app, List.getElem?_append_right (by rw [bs_len]; omega), bs_len]
   simp only [bs, List.map_replicate]
   rw [List.getElem?_replicate, List.getElem?_replicate, if_pos hj, if_pos (by omega)]
theorem z16 (w : World) : (w.alloc (.cells #[.int .u8 0, .int .u8 0, .int .u8 0, .int .u8 0, .int .u8 0, .int .u8 0, .int .u8 0, .int .u8 0, .int .u8 0, .int .u8 0, .int .u8 0, .int .u8 0, .int .u8 0, .int .u8 0, .int .u8 0, .int .u8 0] 139)).rangeAt w.heap.size 0 (bs (List.replicate 16 0)) ∧
 (w.alloc (.cells #[.int .u8 0, .int .u8 0, .int .u8 0, .int .u8 0, .int .u8 0, .int .u8 0, .int .u8 0, .int .u8 0, .int .u8 0, .int .u8 0, .int .u8 0, .int .u8 0, .int .u8 0, .int .u8 0, .int .u8 0, .int .u8 0] 139)).there w.heap.size 0 16 := by
 have hB := Blk.new w 139 #[.int .u8 0, .int .u8 0, .int .u8 0, .int .u8 0, .int .u8 0, .int .u8 0, .int .u8 0, .int .u8 0, .int .u8 0, .int .u8 0, .int .u8 0, .int .u8 0, .int .u8 0, .int .u8 0, .int .u8 0, .int .u8 0]
 refine ⟨fun j v hv => ?_, fun j hj => ⟨?_, hB.frozen _⟩⟩
 · rw [hB.cell, Nat.zero_add, ← hv]
   simp only [zD]
   rfl
 · rw [hB.cell, Nat.zero_add, Array.getElem?_eq_getElem (by simpa using hj)]
   rfl
theorem whole_c (A : Option Addr) (n c : Nat) (l : List UInt8) (w : World) (hr : Bts w 0 w.heap.size A n l) (hn : n ≤ 16) :
 Calls Tryz.prog 61 #[.slice A n c] w fun e w' => e = .returned (.agg (bs (pad l)).toArray) ∧ Below w.heap.size w w' := by
 obtain ⟨r1, t1⟩ := z16 w
 go_enter Tryz.func61, Tryz.ntmps61
 generalize hw1 : w.alloc (.cells #[.int .u8 0, .int .u8 0, .int .u8 0, .int .u8 0, .int .u8 0, .int .u8 0, .int .u8 0, .int .u8 0, .int .u8 0, .int .u8 0, .int .u8 0, .int .u8 0, .int .u8 0, .int .u8 0, .int .u8 0, .int .u8 0] 139) = w1 at *
 obtain ⟨r2, t2⟩ := z16 w1
 have hs1 : w1.heap.size = w.heap.size + 1 := by rw [← hw1]; simp
 have hb1 : Below w.heap.size w w1 := by rw [← hw1]; exact (Below.refl _ _).alloc (nl _) _
 rw [hs1] at r2 t2
 generalize hw2 : w1.alloc (.cells #[.int .u8 0, .int .u8 0, .int .u8 0, .int .u8 0, .int .u8 0, .int .u8 0, .int .u8 0, .int .u8 0, .int .u8 0, .int .u8 0, .int .u8 0, .int .u8 0, .int .u8 0, .int .u8 0, .int .u8 0, .int .u8 0] 139) = w2 at *
 have hb2 : Below (w.heap.size + 1) w1 w2 := by rw [← hw2]; exact (Below.refl _ _).alloc (by omega) _
 have hb12 : Below w.heap.size w w2 := hb1.trans (hb2.mono (by omega))
 have r2' : w2.rangeAt w.heap.size 0 (bs (List.replicate 16 0)) := rangeAt_keep r1 (hb2.block _ (by omega))
 have t2' : w2.there w.heap.size 0 16 := there_keep t1 (hb2.block _ (by omega))
 have hcp := run_copy16 w2 3 (w.heap.size + 1) 16 A n c 0 w.heap.size l (hr.below hb12 (nl _)) hn t2
 have hl := hr.len
 have r3 := copied (l := l) (by omega) r2
 have t3 : (w2.setCells (w.heap.size + 1) 0 (bs l)).there w.heap.size 0 16 := World.there_setCells t2' _ _ _
 have g3 := grown_setCells (w.heap.size + 1) (bs l) 0 w2
 generalize hw3 : w2.setCells (w.heap.size + 1) 0 (bs l) = w3 at *
 have hpl : (bs (pad l)).length = 16 := by rw [bs_len, pad_len l (by omega)]
 have hin : (Tryz.prog.info? 139).map (·.size) = some (bs (pad l)).length := by rw [hpl]; exact Tryz.infoB
 have hin2 : (Tryz.prog.info? 139).map (·.size) = some (bs (pad l)).toArray.size := by rw [List.size_toArray]; exact hin
 have h1c := all_oneCell_toArray (bs_one (pad l))
 have t3' : w3.there w.heap.size 0 (bs (pad l)).toArray.size := by
  show w3.there w.heap.size 0 (bs (pad l)).length
  rw [hpl]
  exact t3
 have r4 : (w3.setCells w.heap.size 0 (bs (pad l))).rangeAt w.heap.size 0 (bs (pad l)) := World.rangeAt_setCells_same _ _ _ _ (by rw [hpl]; exact t3)
 have g4 := grown_setCells w.heap.size (bs (pad l)) 0 w3
 generalize hw4 : w3.setCells w.heap.size 0 (bs (pad l)) = w4 at r4 g4
 have HW4 := hid hw4
 have hres := run_loadVar_mid (P := Tryz.prog) w4 w.heap.size 0 139 (bs (pad l)) (.array 16 5) r4 Tryz.undB rfl hin
 have HB : Hid (Below w.heap.size w w4) := hid ((hb12.grown g3 hb12.size (fun k hk => by injection hk with hk; omega)).grown g4 (Nat.le_trans hb12.size g3.size) (fun k hk => by injection hk with hk; omega))
 have HI := hid hin
 have HI2 := hid hin2
 have H1 := hid h1c
 have HT := hid t3'
 have HR := hid r3
 generalize bs (pad l) = L at *
 clear r1 t1 r2 t2 r2' t2' t3 t3' r3 g3 g4 r4 hb1 hb2 hb12 hpl hr hn hl hw3 hw4 hin hin2 h1c
 subst hw1
 subst hw2
 go_wp2_with (first | (refine wpList_load_mid rfl 139 _ rfl _ _ rfl L _ HR.out Tryz.undB rfl HI.out ?_) | (refine wpList_store_mid rfl 139 _ _ rfl _ _ L.toArray rfl rfl HT.out HI2.out H1.out ?_; rw [show w3.setCells w.heap.size 0 L.toArray.toList = w4 from HW4.out]))
 refine bodyPost_ret (v := .agg L.toArray) ?_ rfl ⟨rfl, HB.out⟩
 simp [results, Tryz.results61, Act.put, asAddr, hres]
theorem z16_at (k : Nat) (h : k < 16) : (#[.int .u8 0, .int .u8 0, .int .u8 0, .int .u8 0, .int .u8 0, .int .u8 0, .int .u8 0, .int .u8 0, .int .u8 0, .int .u8 0, .int .u8 0, .int .u8 0, .int .u8 0, .int .u8 0, .int .u8 0, .int .u8 0] : Array Value)[k]! = .int .u8 0 := by
 rcases k with _ | _ | _ | _ | _ | _ | _ | _ | _ | _ | _ | _ | _ | _ | _ | _ | k
 all_goals first | rfl | omega
theorem Rows.new (w : World) (n : Nat) : Rows (w.alloc (.cells (madeCells #[.int .u8 0, .int .u8 0, .int .u8 0, .int .u8 0, .int .u8 0, .int .u8 0, .int .u8 0, .int .u8 0, .int .u8 0, .int .u8 0, .int .u8 0, .int .u8 0, .int .u8 0, .int .u8 0, .int .u8 0, .int .u8 0] (n * 16)) 139)) w.heap.size n zero := by
 have hB := Blk.new w 139 (madeCells #[.int .u8 0, .int .u8 0, .int .u8 0, .int .u8 0, .int .u8 0, .int .u8 0, .int .u8 0, .int .u8 0, .int .u8 0, .int .u8 0, .int .u8 0, .int .u8 0, .int .u8 0, .int .u8 0, .int .u8 0, .int .u8 0] (n * 16))
 have hc : ∀ j, j < n * 16 → (madeCells #[.int .u8 0, .int .u8 0, .int .u8 0, .int .u8 0, .int .u8 0, .int .u8 0, .int .u8 0, .int .u8 0, .int .u8 0, .int .u8 0, .int .u8 0, .int .u8 0, .int .u8 0, .int .u8 0, .int .u8 0, .int .u8 0] (n * 16))[j]? = some (.int .u8 0) := by
  intro j hj
  have : (madeCells #[.int .u8 0, .int .u8 0, .int .u8 0, .int .u8 0, .int .u8 0, .int .u8 0, .int .u8 0, .int .u8 0, .int .u8 0, .int .u8 0, .int .u8 0, .int .u8 0, .int .u8 0, .int .u8 0, .int .u8 0, .int .u8 0] (n * 16))[j]? = some ((#[.int .u8 0, .int .u8 0, .int .u8 0, .int .u8 0, .int .u8 0, .int .u8 0, .int .u8 0, .int .u8 0, .int .u8 0, .int .u8 0, .int .u8 0, .int .u8 0, .int .u8 0, .int .u8 0, .int .u8 0, .int .u8 0] : Array Value)[j % 16]!) := by
   unfold madeCells
   rw [Array.getElem?_map, Array.getElem?_range, if_pos hj]
   rfl
  rw [this, z16_at _ (Nat.mod_lt _ (by decide))]
 refine ⟨by simp, fun i hi j v hv => ?_, fun j hj => ⟨?_, hB.frozen _⟩⟩
 · have hj : j < 16 := by have := (List.getElem?_eq_some_iff.1 hv).1; rwa [bs_len] at this
   rw [hB.cell, hc _ (by omega), ← hv]
   unfold zero bs
   rw [List.map_replicate, List.getElem?_replicate, if_pos hj]
   rfl
 · rw [hB.cell, hc _ (by omega)]
   rfl
theorem wp_make16 {op : Oper} {a : Act} {w : World} {K : Act → World → Prop} {Q : Exit → Act → World → Prop} (l c : Operand) (ho : op.op = .makeSlice 105 l c)
 (N : Nat) (hl : a.eval l = .int .i64 (N : Int)) (hc : a.eval c = .int .i64 (N : Int)) (hN : N ≤ 4096)
 (h : K (a.put op.dst (.slice (some ⟨w.heap.size, 0, none⟩) N N)) (w.alloc (.cells (madeCells #[.int .u8 0, .int .u8 0, .int .u8 0, .int .u8 0, .int .u8 0, .int .u8 0, .int .u8 0, .int .u8 0, .int .u8 0, .int .u8 0, .int .u8 0, .int .u8 0, .int .u8 0, .int .u8 0, .int .u8 0, .int .u8 0] (N * 16)) 139))) : op.wp Tryz.prog a w K Q := by
 have hi : (Tryz.prog.info? 139).map (fun i => (i.zero, i.size, i.bytes)) = some (some (.agg #[.int .u8 0, .int .u8 0, .int .u8 0, .int .u8 0, .int .u8 0, .int .u8 0, .int .u8 0, .int .u8 0, .int .u8 0, .int .u8 0, .int .u8 0, .int .u8 0, .int .u8 0, .int .u8 0, .int .u8 0, .int .u8 0]), 16, 16) := by kernel_rfl
 obtain ⟨i, hi, hz0, hz1, hz2⟩ := info_parts hi
 have hb : (i.bytes : Int) * (N : Int) ≤ 281474976710656 := by rw [hz2]; omega
 have hrun := run_make (P := Tryz.prog) w 105 139 i (.agg #[.int .u8 0, .int .u8 0, .int .u8 0, .int .u8 0, .int .u8 0, .int .u8 0, .int .u8 0, .int .u8 0, .int .u8 0, .int .u8 0, .int .u8 0, .int .u8 0, .int .u8 0, .int .u8 0, .int .u8 0, .int .u8 0]) Tryz.underlying105 hi hz0 .i64 .i64 N N (by omega) (by omega) hb (by omega)
 rw [Int.toNat_natCast, hz1] at hrun
 unfold Oper.wp execOp
 simp only [ho, hl, hc, Sem.run_bind, hrun, Result.andThen_ok]
 exact h
theorem DevAt.new {w : World} {lo n k q g : Nat} (hb : Blk w g 108 #[.slice (some ⟨k, 0, none⟩) n n, .slice (some ⟨q, 0, none⟩) n n, .slice none 0 0, .bool false, .int .i64 0]) (hk : Rows w k n zero) (hq : Rows w q n zero) (h1 : k < g) (h2 : q < g) (h3 : k ≠ q) (h4 : lo ≤ k) (h5 : lo ≤ q) (hn1 : 1 ≤ n) (hn2 : n ≤ 4096) :
 Dev w (fun j => lo ≤ j ∧ j < w.heap.size) g (St.new n) :=
 ⟨k, q, none, 0, hb, hk, hq, ⟨rfl, .inl ⟨rfl, rfl⟩⟩, by omega, by omega, h3, fun b hb => (by cases hb), ⟨by omega, hb.lt⟩, ⟨h4, hk.lt⟩, ⟨h5, hq.lt⟩, fun j hj => hj.2, St.ok_new hn1 hn2⟩
theorem new_c (n : Nat) (w : World) (h1 : 1 ≤ n) (h2 : n ≤ 4096) :
 Calls Tryz.prog 12 #[.int .i64 (n : Int)] w fun e w' => ∃ g F, e = .returned (.tuple #[.pointer (some ⟨g, 0, none⟩), .int .i64 0]) ∧ Dev w' F g (St.new n) ∧ Below w.heap.size w w' ∧ ∀ j, F j → w.heap.size ≤ j := by
 have e1 : decide ((n : Int) < 1) = false := by simp; omega
 have e2 : decide (4096 < (n : Int)) = false := by simp; omega
 have H1 := hid h1
 have H2 := hid h2
 clear h1 h2
 go_enter Tryz.func12, Tryz.ntmps12
 go_wp2_with fail
 refine wp_region_held_drew (S := fun _ => True) (by kernel_rfl) trivial (fun HS => ?_)
 refine qT 0 ?v0 ?y0 HS ?r0
 case y0 => refine qI fun wS hSw => ?_; go_simp; try with_reducible rfl
 try simp only [Act.put, zA]
 refine qT 2 ?v2 ?y2 HS ?r2
 case y2 => refine qI fun wS hSw => ?_; go_simp; try with_reducible rfl
 try simp only [Act.put, zA]
 refine wpAnyH_ready (rs := [1, 3]) (by kernel_rfl) (by simp) ?_
 refine (AllReadyH.cons (o := ?o1) ?ho1 (fun K hK => ?step1) (AllReadyH.cons (o := ?o3) ?ho3 (fun K hK => ?step3) AllReadyH.nil))
 case ho1 => simp only [zD, zE, zF]; exact rfl
 case ho3 => simp only [zD, zE, zF]; exact rfl
 case step1 =>
  rw [if_pos (by rfl)]
  refine wp_make16 _ _ rfl n rfl rfl H2.out ?_
  refine hK.out _ _ trivial (fun HS => ?_)
  clear hK K
  try simp only [Act.put, zA]
  refine qR 3 fun K hK => ?_
  rw [if_pos (by rfl)]
  refine wp_make16 _ _ rfl n rfl rfl H2.out ?_
  refine hK.out _ _ trivial (fun HS => ?_)
  clear hK K
  try simp only [Act.put, zA]
  refine qT 4 ?va4 ?ya4 HS ?ra4
  case ya4 => refine qI fun wS hSw => ?_; go_simp; try with_reducible rfl
  try simp only [Act.put, zA]
  refine qR 5 fun K hK => ?_
  go_simp
  refine hK.out _ _ trivial (fun HS => ?_)
  clear hK K
  try simp only [Act.put, zA]
  refine qT 6 ?va6 ?ya6 HS ?ra6
  case ya6 => refine qI fun wS hSw => ?_; go_simp; try with_reducible rfl
  try simp only [Act.put, zA]
  refine qT 7 ?va7 ?ya7 HS ?ra7
  case ya7 => refine qI fun wS hSw => ?_; go_simp; try with_reducible rfl
  try simp only [Act.put, zA]
  refine qD ?_
  go_wp2
  go_ret2
  have R1 := Rows.new w n
  have B1 : Below w.heap.size w (w.alloc (.cells (madeCells #[.int .u8 0, .int .u8 0, .int .u8 0, .int .u8 0, .int .u8 0, .int .u8 0, .int .u8 0, .int .u8 0, .int .u8 0, .int .u8 0, .int .u8 0, .int .u8 0, .int .u8 0, .int .u8 0, .int .u8 0, .int .u8 0] (n * 16)) 139)) := (Below.refl _ _).alloc (nl _) _
  have z2 : (w.alloc (.cells (madeCells #[.int .u8 0, .int .u8 0, .int .u8 0, .int .u8 0, .int .u8 0, .int .u8 0, .int .u8 0, .int .u8 0, .int .u8 0, .int .u8 0, .int .u8 0, .int .u8 0, .int .u8 0, .int .u8 0, .int .u8 0, .int .u8 0] (n * 16)) 139)).heap.size = w.heap.size + 1 := by simp
  generalize w.alloc (.cells (madeCells #[.int .u8 0, .int .u8 0, .int .u8 0, .int .u8 0, .int .u8 0, .int .u8 0, .int .u8 0, .int .u8 0, .int .u8 0, .int .u8 0, .int .u8 0, .int .u8 0, .int .u8 0, .int .u8 0, .int .u8 0, .int .u8 0] (n * 16)) 139) = w2 at *
  have R2 := Rows.new w2 n
  have B2 : Below w.heap.size w (w2.alloc (.cells (madeCells #[.int .u8 0, .int .u8 0, .int .u8 0, .int .u8 0, .int .u8 0, .int .u8 0, .int .u8 0, .int .u8 0, .int .u8 0, .int .u8 0, .int .u8 0, .int .u8 0, .int .u8 0, .int .u8 0, .int .u8 0, .int .u8 0] (n * 16)) 139)) := B1.alloc (by omega) _
  have R12 : Rows (w2.alloc (.cells (madeCells #[.int .u8 0, .int .u8 0, .int .u8 0, .int .u8 0, .int .u8 0, .int .u8 0, .int .u8 0, .int .u8 0, .int .u8 0, .int .u8 0, .int .u8 0, .int .u8 0, .int .u8 0, .int .u8 0, .int .u8 0, .int .u8 0] (n * 16)) 139)) w.heap.size n zero := R1.keep (by simp) (Below.heap_alloc w2 _ _ (by omega))
  have z3 : (w2.alloc (.cells (madeCells #[.int .u8 0, .int .u8 0, .int .u8 0, .int .u8 0, .int .u8 0, .int .u8 0, .int .u8 0, .int .u8 0, .int .u8 0, .int .u8 0, .int .u8 0, .int .u8 0, .int .u8 0, .int .u8 0, .int .u8 0, .int .u8 0] (n * 16)) 139)).heap.size = w2.heap.size + 1 := by simp
  rw [z2] at R2
  generalize w2.alloc (.cells (madeCells #[.int .u8 0, .int .u8 0, .int .u8 0, .int .u8 0, .int .u8 0, .int .u8 0, .int .u8 0, .int .u8 0, .int .u8 0, .int .u8 0, .int .u8 0, .int .u8 0, .int .u8 0, .int .u8 0, .int .u8 0, .int .u8 0] (n * 16)) 139) = w3 at *
  have HD := DevAt.new (lo := w.heap.size) (k := w.heap.size) (q := w.heap.size + 1) (Blk.new w3 108 #[.slice (some ⟨w.heap.size, 0, none⟩) n n, .slice (some ⟨w.heap.size + 1, 0, none⟩) n n, .slice none 0 0, .bool false, .int .i64 0]) (R12.keep (by simp) (Below.heap_alloc w3 _ _ (by omega))) (R2.keep (by simp) (Below.heap_alloc w3 _ _ (by omega))) (by omega) (by omega) (by omega) (by omega) (by omega) H1.out H2.out
  rw [show w3.heap.size = w.heap.size + 2 by omega] at HD
  exact ⟨w.heap.size + 2, _, rfl, HD.bel ((Below.refl _ _).drew), (B2.alloc (by omega) _).drew, fun j hj => hj.1⟩
 case step3 =>
  rw [if_pos (by rfl)]
  refine wp_make16 _ _ rfl n rfl rfl H2.out ?_
  refine hK.out _ _ trivial (fun HS => ?_)
  clear hK K
  try simp only [Act.put, zA]
  refine qR 1 fun K hK => ?_
  rw [if_pos (by rfl)]
  refine wp_make16 _ _ rfl n rfl rfl H2.out ?_
  refine hK.out _ _ trivial (fun HS => ?_)
  clear hK K
  try simp only [Act.put, zA]
  refine qT 4 ?vb4 ?yb4 HS ?rb4
  case yb4 => refine qI fun wS hSw => ?_; go_simp; try with_reducible rfl
  try simp only [Act.put, zA]
  refine qR 5 fun K hK => ?_
  go_simp
  refine hK.out _ _ trivial (fun HS => ?_)
  clear hK K
  try simp only [Act.put, zA]
  refine qT 6 ?vb6 ?yb6 HS ?rb6
  case yb6 => refine qI fun wS hSw => ?_; go_simp; try with_reducible rfl
  try simp only [Act.put, zA]
  refine qT 7 ?vb7 ?yb7 HS ?rb7
  case yb7 => refine qI fun wS hSw => ?_; go_simp; try with_reducible rfl
  try simp only [Act.put, zA]
  refine qD ?_
  go_wp2
  go_ret2
  have R1 := Rows.new w n
  have B1 : Below w.heap.size w (w.alloc (.cells (madeCells #[.int .u8 0, .int .u8 0, .int .u8 0, .int .u8 0, .int .u8 0, .int .u8 0, .int .u8 0, .int .u8 0, .int .u8 0, .int .u8 0, .int .u8 0, .int .u8 0, .int .u8 0, .int .u8 0, .int .u8 0, .int .u8 0] (n * 16)) 139)) := (Below.refl _ _).alloc (nl _) _
  have z2 : (w.alloc (.cells (madeCells #[.int .u8 0, .int .u8 0, .int .u8 0, .int .u8 0, .int .u8 0, .int .u8 0, .int .u8 0, .int .u8 0, .int .u8 0, .int .u8 0, .int .u8 0, .int .u8 0, .int .u8 0, .int .u8 0, .int .u8 0, .int .u8 0] (n * 16)) 139)).heap.size = w.heap.size + 1 := by simp
  generalize w.alloc (.cells (madeCells #[.int .u8 0, .int .u8 0, .int .u8 0, .int .u8 0, .int .u8 0, .int .u8 0, .int .u8 0, .int .u8 0, .int .u8 0, .int .u8 0, .int .u8 0, .int .u8 0, .int .u8 0, .int .u8 0, .int .u8 0, .int .u8 0] (n * 16)) 139) = w2 at *
  have R2 := Rows.new w2 n
  have B2 : Below w.heap.size w (w2.alloc (.cells (madeCells #[.int .u8 0, .int .u8 0, .int .u8 0, .int .u8 0, .int .u8 0, .int .u8 0, .int .u8 0, .int .u8 0, .int .u8 0, .int .u8 0, .int .u8 0, .int .u8 0, .int .u8 0, .int .u8 0, .int .u8 0, .int .u8 0] (n * 16)) 139)) := B1.alloc (by omega) _
  have R12 : Rows (w2.alloc (.cells (madeCells #[.int .u8 0, .int .u8 0, .int .u8 0, .int .u8 0, .int .u8 0, .int .u8 0, .int .u8 0, .int .u8 0, .int .u8 0, .int .u8 0, .int .u8 0, .int .u8 0, .int .u8 0, .int .u8 0, .int .u8 0, .int .u8 0] (n * 16)) 139)) w.heap.size n zero := R1.keep (by simp) (Below.heap_alloc w2 _ _ (by omega))
  have z3 : (w2.alloc (.cells (madeCells #[.int .u8 0, .int .u8 0, .int .u8 0, .int .u8 0, .int .u8 0, .int .u8 0, .int .u8 0, .int .u8 0, .int .u8 0, .int .u8 0, .int .u8 0, .int .u8 0, .int .u8 0, .int .u8 0, .int .u8 0, .int .u8 0] (n * 16)) 139)).heap.size = w2.heap.size + 1 := by simp
  rw [z2] at R2
  generalize w2.alloc (.cells (madeCells #[.int .u8 0, .int .u8 0, .int .u8 0, .int .u8 0, .int .u8 0, .int .u8 0, .int .u8 0, .int .u8 0, .int .u8 0, .int .u8 0, .int .u8 0, .int .u8 0, .int .u8 0, .int .u8 0, .int .u8 0, .int .u8 0] (n * 16)) 139) = w3 at *
  have HD := DevAt.new (lo := w.heap.size) (k := w.heap.size + 1) (q := w.heap.size) (Blk.new w3 108 #[.slice (some ⟨w.heap.size + 1, 0, none⟩) n n, .slice (some ⟨w.heap.size, 0, none⟩) n n, .slice none 0 0, .bool false, .int .i64 0]) (R2.keep (by simp) (Below.heap_alloc w3 _ _ (by omega))) (R12.keep (by simp) (Below.heap_alloc w3 _ _ (by omega))) (by omega) (by omega) (by omega) (by omega) (by omega) H1.out H2.out
  rw [show w3.heap.size = w.heap.size + 2 by omega] at HD
  exact ⟨w.heap.size + 2, _, rfl, HD.bel ((Below.refl _ _).drew), (B2.alloc (by omega) _).drew, fun j hj => hj.1⟩
theorem read_bad (w : World) (F : Nat → Prop) (g : Nat) (s : St) (h : Dev w F g s) (i : Int) (hb : bad s i 0) :
 Calls Tryz.prog 24 #[.pointer (some ⟨g, 0, none⟩), .int .i64 i] w fun e w' => e = .returned (.tuple #[.slice none 0 0, .int .i64 2]) ∧ w = w' := by
 have hw := wrong_bad w F g s h i none 0 0 hb
 clear h hb
 go_enter Tryz.func24, Tryz.ntmps24
 go_wp2_with fail
 refine hw.mono ?_
 rintro e w' ⟨rfl, rfl⟩
 go_wp2
 go_ret2
 exact ⟨rfl, rfl⟩
theorem read_off (w : World) (F : Nat → Prop) (g : Nat) (s : St) (h : Dev w F g s) (i : Int) (hb : ¬ bad s i 0) (ho : s.lim = some 0) :
 Calls Tryz.prog 24 #[.pointer (some ⟨g, 0, none⟩), .int .i64 i] w fun e w' => e = .returned (.tuple #[.slice none 0 0, .int .i64 40]) ∧ w = w' := by
 have hw := wrong_ok w F g s h i none 0 0 hb
 have ho := off_c w F g s h
 rw [‹s.lim = some 0›] at ho
 clear h hb
 go_enter Tryz.func24, Tryz.ntmps24
 go_wp2_with fail
 refine hw.mono ?_
 rintro e w' ⟨rfl, rfl⟩
 go_wp2_with fail
 refine ho.mono ?_
 rintro e w' ⟨rfl, rfl⟩
 go_wp2
 go_ret2
 exact ⟨rfl, rfl⟩
theorem read_c (w : World) (F : Nat → Prop) (g : Nat) (s : St) (h : Dev w F g s) (i : Nat) (hi : i < s.n) (ho : s.lim ≠ some 0) :
 Calls Tryz.prog 24 #[.pointer (some ⟨g, 0, none⟩), .int .i64 (i : Int)] w fun e w' => ∃ A c, e = .returned (.tuple #[.slice A 16 c, .int .i64 0]) ∧ w'.ownsRow w.heap.size 5 1 (.slice A 16 c) 16 (bs (app s.W s.K i)) ∧ Below w.heap.size w w' := by
 have hw := wrong_ok w F g s h i none 0 0 (by unfold bad; omega)
 have hoff := off_c w F g s h
 have e : decide (s.lim = some 0) = false := by simpa using ho
 rw [e] at hoff
 have hS := h.ok.S i
 obtain ⟨k, q, A, c, h⟩ := h
 obtain ⟨-, h1, -⟩ := h.cells
 have hrow := h.seen.row i hi
 have hglt := h.F g h.Fg
 have hqlt := h.seen.lt
 have i1 : (0 : Int) ≤ (i : Int) := by omega
 have i2 : (i : Int) < (s.n : Int) := by omega
 have HR := hid hrow
 have HQ := hid hqlt
 have HS := hid hS
 have HG := hid hglt
 generalize app s.W s.K i = L at *
 clear h ho e hrow hS
 go_enter Tryz.func24, Tryz.ntmps24
 go_wp2_with fail
 refine hw.mono ?_
 rintro e w' ⟨rfl, rfl⟩
 go_wp2_with fail
 refine hoff.mono ?_
 rintro e w' ⟨rfl, rfl⟩
 clear hw hoff
 go_wp2_with (at_make; refine wpList_make_new _ rfl _ _ 51 rfl 5 (.int .u8 0) 1 Tryz.underlying51 Tryz.infoU8 rfl 16 16 16 16 rfl rfl rfl rfl (by decide) (by decide) (by decide) ?_)
 intro w1 hz1 hg1 hs1
 have B1 : Below w.heap.size w w1 := (Below.refl _ _).grown hg1 (nl _) (fun k hk => by cases hk)
 have c1 : w1.cell? ⟨g, 1, none⟩ = some (.slice (some ⟨q, 0, none⟩) s.n s.n) := by rw [World.cell?_of_block (B1.block g HG.out)]; exact h1
 clear h1
 have R1 : Bts w1 0 w.heap.size (some ⟨q, i * 16, none⟩) 16 L := ⟨HS.out, fun _ => ⟨q, i * 16, rfl, Nat.zero_le _, HQ.out, rangeAt_keep HR.out (B1.block q HQ.out)⟩⟩
 have hB1 : Blk w1 w.heap.size 5 (zeros 16 (.int .u8 0)).toArray := hz1.out
 have hcp := run_copy16 w1 3 w.heap.size 16 _ 16 16 0 w.heap.size L R1 (nl _) (fun j hj => ⟨by rw [hB1.cell, Nat.zero_add]; simp [zeros, hj], hB1.frozen _⟩)
 have hB2 := hB1.setAll (bs L) (by rw [bs_len, HS.out]; rfl)
 have g2 := grown_setCells w.heap.size (bs L) 0 w1
 generalize w1.setCells w.heap.size 0 (bs L) = w2 at *
 have HB2 := hid hB2
 have HO : Hid (Below w.heap.size w w2) := hid (B1.grown g2 (Nat.le_of_lt hs1) (fun k hk => by injection hk with hk; omega))
 clear hB1 R1 hB2 g2 hz1 hg1 HR
 go_wp2
 go_ret2
 refine ⟨_, _, rfl, ⟨by rw [bs_len, HS.out], .inr ⟨w.heap.size, 16, (bs L).toArray, rfl, nl _, HB2.out, nl _, by unfold maxLen; omega, by simp [bs_len, HS.out], ?_⟩⟩, HO.out⟩
 exact List.take_of_length_le (by rw [bs_len, HS.out]; decide)
theorem list16 {L : List Value} (h : L.length = 16) : ∃ x0 x1 x2 x3 x4 x5 x6 x7 x8 x9 x10 x11 x12 x13 x14 x15, L = [x0, x1, x2, x3, x4, x5, x6, x7, x8, x9, x10, x11, x12, x13, x14, x15] := by
 match L, h with
 | [x0, x1, x2, x3, x4, x5, x6, x7, x8, x9, x10, x11, x12, x13, x14, x15], _ => exact ⟨x0, x1, x2, x3, x4, x5, x6, x7, x8, x9, x10, x11, x12, x13, x14, x15, rfl⟩
theorem Tryz.infoW : (Tryz.prog.info? 143).map (fun i => (i.zero, i.size, i.bytes)) = some (some (.agg #[.int .i64 0, .int .u8 0, .int .u8 0, .int .u8 0, .int .u8 0, .int .u8 0, .int .u8 0, .int .u8 0, .int .u8 0, .int .u8 0, .int .u8 0, .int .u8 0, .int .u8 0, .int .u8 0, .int .u8 0, .int .u8 0, .int .u8 0]), 17, 24) := by kernel_rfl
theorem Tryz.infoW1 : (Tryz.prog.info? 143).map (·.size) = some 17 := by kernel_rfl
theorem Tryz.undW : (Tryz.prog.underlying 143).map TypeDesc.isRow = some true := by kernel_rfl
theorem built_write (i : Int) (L : List Value) (hL : L.length = 16) : Tryz.prog.built 143 [(0, .int .i64 i), (1, .agg L.toArray)] = some (.int .i64 i :: L).toArray := by
 obtain ⟨x0, x1, x2, x3, x4, x5, x6, x7, x8, x9, x10, x11, x12, x13, x14, x15, rfl⟩ := list16 hL
 kernel_rfl
theorem filled_write (i : Int) (L : List Value) (hL : L.length = 16) : Instr.fill (fun j => some (j * 17, 17)) ((Array.range (1 * 17)).map ((#[.int .i64 0, .int .u8 0, .int .u8 0, .int .u8 0, .int .u8 0, .int .u8 0, .int .u8 0, .int .u8 0, .int .u8 0, .int .u8 0, .int .u8 0, .int .u8 0, .int .u8 0, .int .u8 0, .int .u8 0, .int .u8 0, .int .u8 0] : Array Value)[· % 17]!)) [(0, .agg (.int .i64 i :: L).toArray)] = some (.int .i64 i :: L).toArray := by
 obtain ⟨x0, x1, x2, x3, x4, x5, x6, x7, x8, x9, x10, x11, x12, x13, x14, x15, rfl⟩ := list16 hL
 kernel_rfl
theorem wp_append_w {op : Oper} {a : Act} {w : World} {K : Act → World → Prop} {Q : Exit → Act → World → Prop} (s x : Operand) (ho : op.op = .call { callee := .builtin .append, args := #[s, x], argTypes := #[106, 106] })
 (A : Option Addr) (n c : Nat) (xs : List Value) (hs : a.eval s = .slice A n c) (hown : w.ownsRow 0 143 17 (.slice A n c) n xs) (b : Nat) (hx : a.eval x = .slice (some ⟨b, 0, none⟩) 1 1)
 (news : List Value) (hl : news.length = 17) (hr : w.rangeAt b 0 news) (h1 : ∀ u ∈ news, u.oneCell' = true) (hn : n ≤ 1000000)
 (h : ∀ A' c' w', w'.ownsRow 0 143 17 (.slice A' (n + 1) c') (n + 1) (xs ++ news) → w.grownBy w' (A.map (·.block)) → (∀ d, A'.map (·.block) = some d → A.map (·.block) = some d ∨ d = w.heap.size) → K (a.put op.dst (.slice A' (n + 1) c')) w') : op.wp Tryz.prog a w K Q := by
 obtain ⟨i, hi, hz0, hz1, hz2⟩ := info_parts Tryz.infoW
 obtain ⟨v', w', hrun, h2, h3, _, h5⟩ := run_append_own_at (P := Tryz.prog) w 0 106 op.type 143 i _ 17 24 Tryz.underlying106 hi hz0 hz1 hz2 rfl (by decide) _ n xs hown ⟨b, 0, none⟩ 1 1 news hl (fun j u hu => by rw [add_plain]; exact hr j u hu) h1 (by unfold maxLen; omega) (by omega) (Nat.zero_le _)
 have hv : (Value.slice A n c).ownBlock = A.map (·.block) := by cases A <;> rfl
 obtain ⟨A', c', rfl⟩ : ∃ A' c', v' = .slice A' (n + 1) c' := by
  rcases h2.2 with ⟨_, h0⟩ | ⟨g, cap, cur, hv', _⟩
  · omega
  · exact ⟨_, _, hv'⟩
 have hv2 : (Value.slice A' (n + 1) c').ownBlock = A'.map (·.block) := by cases A' <;> rfl
 unfold Oper.wp execOp
 simp only [ho, resolve, invoke, builtin, Sem.run_bind, Sem.run_pure, Result.andThen_ok, List.map_toArray, List.map_cons, List.map_nil, hs, hx, hrun]
 rw [hv] at h3 h5
 rw [hv2] at h5
 exact h A' c' w' h2 h3 fun d hd => by
  rcases h5 with h5 | h5
  · exact .inl (h5 ▸ hd)
  · rw [h5] at hd; injection hd with hd; exact .inr hd.symm
theorem write_bad (w : World) (F : Nat → Prop) (g : Nat) (s : St) (h : Dev w F g s) (i : Int) (A : Option Addr) (n c : Nat) (hb : bad s i n) :
 Calls Tryz.prog 127 #[.pointer (some ⟨g, 0, none⟩), .int .i64 i, .slice A n c] w fun e w' => e = .returned (.int .i64 2) ∧ w = w' := by
 have hw := wrong_bad w F g s h i A n c hb
 clear h hb
 go_enter Tryz.func127, Tryz.ntmps127
 go_wp2_with fail
 refine hw.mono ?_
 rintro e w' ⟨rfl, rfl⟩
 go_wp2
 go_ret
 exact ⟨rfl, rfl⟩
theorem write_off (w : World) (F : Nat → Prop) (g : Nat) (s : St) (h : Dev w F g s) (i : Int) (A : Option Addr) (n c : Nat) (hb : ¬ bad s i n) (ho : s.lim = some 0) :
 Calls Tryz.prog 127 #[.pointer (some ⟨g, 0, none⟩), .int .i64 i, .slice A n c] w fun e w' => e = .returned (.int .i64 40) ∧ w = w' := by
 have hw := wrong_ok w F g s h i A n c hb
 have hc := count_off w F g s h ho
 clear h hb
 go_enter Tryz.func127, Tryz.ntmps127
 go_wp2_with fail
 refine hw.mono ?_
 rintro e w' ⟨rfl, rfl⟩
 go_wp2_with fail
 refine hc.mono ?_
 rintro e w' ⟨rfl, rfl⟩
 go_wp2
 go_ret
 exact ⟨rfl, rfl⟩
structure Mid (w0 w : World) (F : Nat → Prop) (g : Nat) (s : St) (k q : Nat) (A : Option Addr) (c i : Nat) (b : List UInt8) : Prop where
 blk : Blk w g 108 #[.slice (some ⟨k, 0, none⟩) s.n s.n, .slice (some ⟨q, 0, none⟩) s.n s.n, .slice A s.W.length c, .bool s.lim.isSome, .int .i64 ((s.lim.getD 0 : Nat) : Int)]
 kept : Rows w k s.n s.K
 seen : Rows w q s.n (upd (app s.W s.K) i b)
 wait : w.ownsRow 0 143 17 (.slice A s.W.length c) s.W.length (wcs s.W)
 kp : Kp F w0 w
theorem Mid.of {w0 w1 : World} {F : Nat → Prop} {g : Nat} {s : St} {k q c : Nat} {A : Option Addr} (h : DevAt w0 F g s k q A c) (hb : Below w0.heap.size w0 w1) {i : Nat} (hi : i < s.n) {b : List UInt8} (hl : b.length = 16) : Mid w0 (w1.setCells q (i * 16) (bs b)) F g s k q A c i b := by
 have hk : ∀ j, F j → w1.heap[j]? = w0.heap[j]? := fun j hj => hb.block j (h.F j hj)
 have hg := grown_setCells q (bs b) (i * 16) w1
 have lt : ∀ j, F j → j < w1.heap.size := fun j hj => Nat.lt_of_lt_of_le (h.F j hj) hb.size
 exact ⟨(h.blk.keep (hk g h.Fg)).keep (hg.block g (lt g h.Fg) (by simpa using h.gq)), (h.kept.keep hb.size (hk k h.Fk)).other h.kq _ _, (h.seen.keep hb.size (hk q h.Fq)).put h.ok.S hi hl,
  own_keep (own_keep h.wait fun b hb => hk b (h.Ag b hb).2.2.2) (fun b hb => hg.block b (lt b (h.Ag b hb).2.2.2) (by simpa using (h.Ag b hb).2.2.1)), (Kp.ofBelow hb).trans (Kp.setCells w1 q _ _ h.Fq)⟩
theorem Mid.alloc {w0 w : World} {F : Nat → Prop} {g : Nat} {s : St} {k q c i : Nat} {A : Option Addr} {b : List UInt8} (h : Mid w0 w F g s k q A c i b) {w' : World} (hb : Below w.heap.size w w') : Mid w0 w' F g s k q A c i b :=
 ⟨h.blk.keep (hb.block g h.blk.lt), h.kept.keep hb.size (hb.block k h.kept.lt), h.seen.keep hb.size (hb.block q h.seen.lt), own_keep h.wait fun b hA => hb.block b (own_lt h.wait b hA), h.kp.trans (Kp.ofBelow hb)⟩
theorem Mid.left {w0 w2 w4 : World} {F : Nat → Prop} {g : Nat} {s : St} {k q c : Nat} {A : Option Addr} (h : DevAt w0 F g s k q A c) {i : Nat} (hi : i < s.n) {l : List UInt8} (hl : l.length ≤ 16) (m : Mid w0 w2 F g s k q A c i (pad l)) {A' : Option Addr} {c' : Nat}
 (ho : w4.ownsRow 0 143 17 (.slice A' (s.W.length + 1) c') (s.W.length + 1) (wcs s.W ++ (.int .i64 (i : Int) :: bs (pad l)))) (hg : w2.grownBy w4 (A.map (·.block))) (hA : ∀ d, A'.map (·.block) = some d → A.map (·.block) = some d ∨ d = w2.heap.size) :
 Left w0 (w4.setCell ⟨g, 2, none⟩ (.slice A' (s.W.length + 1) c')) F g (s.put i l) := by
 have hg2 := grown_setCell w4 g 2 (.slice A' (s.W.length + 1) c')
 have gs : w2.heap.size ≤ w4.heap.size := hg.size
 have ws := m.kp.size
 have gsz := hg2.size
 have nA : ∀ j, F j → j ≠ w2.heap.size → (∀ d, A.map (·.block) = some d → d ≠ j) → w4.heap[j]? = w2.heap[j]? := fun j hj _ hd => hg.block j (Nat.lt_of_lt_of_le (h.F j hj) ws) (fun e => hd j e.symm rfl)
 have lt0 : ∀ j, F j → j < w2.heap.size := fun j hj => Nat.lt_of_lt_of_le (h.F j hj) ws
 have eg : w4.heap[g]? = w2.heap[g]? := nA g h.Fg (by have := lt0 g h.Fg; omega) fun d hd => (h.Ag d hd).1
 have ek : w4.heap[k]? = w2.heap[k]? := nA k h.Fk (by have := lt0 k h.Fk; omega) fun d hd => (h.Ag d hd).2.1
 have eq' : w4.heap[q]? = w2.heap[q]? := nA q h.Fq (by have := lt0 q h.Fq; omega) fun d hd => (h.Ag d hd).2.2.1
 have lg := lt0 g h.Fg
 have lk := lt0 k h.Fk
 have lq := lt0 q h.Fq
 have A1 : ∀ d, A'.map (·.block) = some d → d ≠ g ∧ d ≠ k ∧ d ≠ q ∧ (F d ∨ d = w2.heap.size) := fun d hd => by
  rcases hA d hd with e | e
  · have := h.Ag d e
    exact ⟨this.1, this.2.1, this.2.2.1, .inl this.2.2.2⟩
  · subst e
    exact ⟨by omega, by omega, by omega, .inr rfl⟩
 refine ⟨fun j => (F j ∨ j = w2.heap.size) ∧ j < w4.heap.size, ⟨k, q, A', c', ?_, ?_, ?_, ?_, h.gk, h.gq, h.kq, fun d hd => ?_, ⟨.inl h.Fg, by omega⟩, ⟨.inl h.Fk, by omega⟩, ⟨.inl h.Fq, by omega⟩, fun j hj => Nat.lt_of_lt_of_le hj.2 hg2.size, ?_⟩, ?_, fun j hj => ?_⟩
 · have := (m.blk.keep eg).store 2 (.slice A' (s.W.length + 1) c')
   show Blk _ g _ #[_, _, .slice A' (s.W ++ [(i, pad l)]).length c', _, _]
   rw [List.length_append]
   exact this
 · exact (m.kept.keep gs ek).keep hg2.size (hg2.block k (by omega) (by simpa using Ne.symm h.gk))
 · have := (m.seen.keep gs eq').keep hg2.size (hg2.block q (by omega) (by simpa using Ne.symm h.gq))
   exact this.same fun j _ => congrFun (app_snoc _ _ _ _) j
 · have := own_keep ho (w' := w4.setCell ⟨g, 2, none⟩ (.slice A' (s.W.length + 1) c')) fun b hb => hg2.block b (own_lt ho b hb) (by simpa using (A1 b hb).1)
   show World.ownsRow _ 0 _ 17 (.slice A' (s.W ++ [(i, pad l)]).length c') (s.W ++ [(i, pad l)]).length (wcs (s.W ++ [(i, pad l)]))
   rw [List.length_append, wcs_app, wcs_one]
   exact this
 · have := A1 d hd
   exact ⟨this.1, this.2.1, this.2.2.1, this.2.2.2, own_lt ho d hd⟩
 · exact h.ok.put hi hl
 · exact (m.kp.step (G := fun j => A.map (·.block) = some j) ⟨hg.os, hg.tape, hg.output, hg.size, fun j hj hne => hg.block j hj (fun e => hne e.symm)⟩ (fun j hj => .inl (h.Ag j hj).2.2.2)).trans (Kp.setCell w4 g 2 _ h.Fg)
 · rcases hj.1 with e | e
   · exact .inl e
   · exact .inr (by omega)
theorem Left.after {w w1 w2 : World} {F F1 : Nat → Prop} {g : Nat} {s : St} (hk : Kp F w w1) (hF : ∀ j, F1 j → F j ∨ w.heap.size ≤ j) (h : Left w1 w2 F1 g s) : Left w w2 F g s := by
 obtain ⟨F2, hd, hk2, hF2⟩ := h
 exact ⟨F2, hd, hk.step hk2 hF, fun j hj => by
  rcases hF2 j hj with e | e
  · exact hF j e
  · exact .inr (Nat.le_trans hk.size e)⟩
theorem write_c (w : World) (F : Nat → Prop) (g : Nat) (s : St) (h : Dev w F g s) (i : Nat) (hi : i < s.n) (A : Option Addr) (n c : Nat) (l : List UInt8) (hr : Bts w 0 w.heap.size A n l) (hA : 0 < n → ∀ u, A.map (·.block) = some u → ¬ F u) (hn : n ≤ 16) (ho : s.lim ≠ some 0) (hW : s.W.length ≤ 1000000) :
 Calls Tryz.prog 127 #[.pointer (some ⟨g, 0, none⟩), .int .i64 (i : Int), .slice A n c] w fun e w' => e = .returned (.int .i64 0) ∧ Left w w' F g (s.put i l).dec := by
 have hw := wrong_ok w F g s h i A n c (by unfold bad; omega)
 have hc := count_on w F g s h ho
 have HI : Hid (i < s.dec.n) := hid hi
 have HR := hid (fun wx (hk : Kp F w wx) => hr.kp hk hA)
 have HN := hid hn
 have HL := hid hr.len
 have HWl : Hid (s.dec.W.length ≤ 1000000) := hid hW
 have HE : Hid ((s.put i l).dec = s.dec.put i l) := hid rfl
 rw [HE.out]
 generalize s.dec = s1 at *
 clear h hi hr hA hn ho hW HE
 go_enter Tryz.func127, Tryz.ntmps127
 go_wp2_with fail
 refine hw.mono ?_
 rintro e w' ⟨rfl, rfl⟩
 go_wp2_with fail
 refine hc.mono ?_
 rintro e w1 ⟨rfl, F1, hd1, hk1, hF1⟩
 have HBt := hid (HR.out w1 hk1)
 have HK1 := hid hk1
 have HF1 := hid hF1
 clear hw hc hk1 hF1 HR
 obtain ⟨k, q, A1, c1, hd⟩ := hd1
 obtain ⟨-, x1, x2, -⟩ := hd.cells
 have HD := hid hd
 have i1 : (0 : Int) ≤ (i : Int) := by omega
 have i2 : (i : Int) < (s1.n : Int) := by have := HI.out; omega
 have HP : Hid ((bs (pad l)).length = 16) := hid (by rw [bs_len, pad_len l (by rw [HL.out]; exact HN.out)])
 have HIN : Hid ((Tryz.prog.info? 139).map (·.size) = some (bs (pad l)).length) := hid (by rw [HP.out]; exact Tryz.infoB)
 clear hd
 go_wp2_with fail
 refine wp_region_held_drew (S := fun wx => wx.cell? ⟨g, 1, none⟩ = some (.slice (some ⟨q, 0, none⟩) s1.n s1.n)) (by kernel_rfl) (by simpa using x1) (fun HS => ?_)
 refine qT 0 ?v0 ?y0 HS ?r0
 case y0 => refine qI fun wS hSw => ?_; go_simp; try with_reducible rfl
 try simp only [Act.put, zA]
 refine qT 1 ?v1 ?y1 HS ?r1
 case y1 => refine qI fun wS hSw => ?_; go_simp; try with_reducible rfl
 try simp only [Act.put, zA]
 refine qT 2 ?v2 ?y2 HS ?r2
 case y2 => refine qI fun wS hSw => ?_; go_simp; try with_reducible rfl
 try simp only [Act.put, zA]
 refine qT 3 ?v3 ?y3 HS ?r3
 case y3 => refine qI fun wS hSw => ?_; go_simp; try with_reducible rfl
 try simp only [Act.put, zA]
 refine qT 4 ?v4 ?y4 HS ?r4
 case y4 => refine qI fun wS hSw => ?_; go_simp; try with_reducible rfl
 try simp only [Act.put, zA]
 refine qT 5 ?v5 ?y5 HS ?r5
 case y5 => refine qI fun wS hSw => ?_; go_simp; try with_reducible rfl
 try simp only [Act.put, zA]
 refine qR 6 fun K hK => ?_
 go_simp
 refine (whole_c A n c l w1.drew (HBt.out.kp (Kp.drew (fun _ => False) w1) (fun _ _ _ => id)) HN.out).mono ?_
 rintro e w2 ⟨rfl, hb2⟩
 have HB2 : Hid (Below w1.heap.size w1 w2) := hid (((Below.refl _ _).drew).trans (hb2.mono (by simp)))
 clear hb2
 refine hK.out _ _ (by have := World.cell?_of_block (a := ⟨g, 1, none⟩) (HB2.out.block g (HD.out.F g HD.out.Fg)); rw [this]; exact x1) (fun HS => ?_)
 clear hK K
 try simp only [Act.put, zA]
 refine qT 7 ?v7 ?y7 HS ?r7
 case y7 => refine qI fun wS hSw => ?_; go_simp; try with_reducible rfl
 try simp only [Act.put, zA]
 refine qR 8 fun K hK => ?_
 rw [if_pos (by rfl)]
 refine wp_store_mid 139 _ _ rfl q (i * 16) (bs (pad l)).toArray rfl rfl (by rw [List.size_toArray, HP.out]; exact there_part (there_keep HD.out.seen.there (HB2.out.block q HD.out.seen.lt)) HI.out) (by rw [List.size_toArray]; exact HIN.out) (all_oneCell_toArray (bs_one _)) ?_
 refine hK.out _ _ (by have h0 := (Mid.of HD.out HB2.out HI.out (b := pad l) (pad_len l (by rw [HL.out]; exact HN.out))).blk.cell 1; simpa using h0) (fun HS => ?_)
 clear hK K
 try simp only [Act.put]
 refine qD ?_
 have hm : Mid w1 (w2.setCells q (i * 16) (bs (pad l))) F1 g s1 k q A1 c1 i (pad l) := Mid.of HD.out HB2.out HI.out (pad_len l (by rw [HL.out]; exact HN.out))
 clear HS x1 x2 HB2 HBt
 generalize w2.setCells q (i * 16) (bs (pad l)) = w3 at *
 have y1 := hm.blk.cell 1
 have y2 := hm.blk.cell 2
 simp at y1 y2
 have HM := hid hm
 clear hm
 go_wp2_with fail
 refine wp_region_held_drew (S := fun wx => wx.cell? ⟨g, 1, none⟩ = some (.slice (some ⟨q, 0, none⟩) s1.n s1.n) ∧ wx.rangeAt q (i * 16) (bs (pad l))) (by kernel_rfl) ⟨by simpa using y1, by have := HM.out.seen.row i HI.out; rw [upd_same] at this; simpa using this⟩ (fun HS => ?_)
 refine qT 0 ?ve0 ?ye0 HS ?re0
 case ye0 => refine qI fun wS hSw => ?_; go_simp; try with_reducible rfl
 try simp only [Act.put, zA]
 refine qT 1 ?ve1 ?ye1 HS ?re1
 case ye1 => refine qI fun wS hSw => ?_; go_simp; try with_reducible rfl
 try simp only [Act.put, zA]
 refine qT 2 ?ve2 ?ye2 HS ?re2
 case ye2 => refine qI fun wS hSw => ?_; go_simp; try with_reducible rfl
 try simp only [Act.put, zA]
 refine qT 3 ?ve3 ?ye3 HS ?re3
 case ye3 => refine qI fun wS hSw => ?_; go_simp; try with_reducible rfl
 try simp only [Act.put, zA]
 refine qT 5 ?ve5 ?ye5 HS ?re5
 case ye5 => refine qI fun wS hSw => ?_; go_simp; try with_reducible rfl
 try simp only [Act.put, zA]
 refine qT 6 ?ve6 ?ye6 HS ?re6
 case ye6 => refine qI fun wS hSw => ?_; go_simp; try with_reducible rfl
 try simp only [Act.put, zA]
 refine qT 7 ?ve7 ?ye7 HS ?re7
 case ye7 => refine qI fun wS hSw => ?_; go_simp; try with_reducible rfl
 try simp only [Act.put, zA]
 refine qT 8 ?ve8 ?ye8 HS ?re8
 case ye8 => refine qI fun wS hSw => ?_; go_simp; try with_reducible rfl
 try simp only [Act.put, zA]
 refine qT 9 ?ve9 ?ye9 HS ?re9
 case ye9 =>
  refine qI fun wS hSw => ?_
  obtain ⟨z1, z2⟩ := hSw
  go_simp
  try with_reducible rfl
 try simp only [Act.put, zA]
 refine qT 10 ?ve10 ?ye10 HS ?re10
 case ye10 => refine qI fun wS hSw => ?_; go_simp; try with_reducible rfl
 try simp only [Act.put, zA]
 refine qT 11 ?ve11 ?ye11 HS ?re11
 case ye11 => refine qI fun wS hSw => ?_; go_simp; try with_reducible rfl
 try simp only [Act.put, zA]
 refine qT 12 ?ve12 ?ye12 HS ?re12
 case ye12 =>
  refine qI fun wS hSw => ?_
  refine Eq.trans (exec_load_mid 139 (.tmp 40) ?_ q (i * 16) ?_ (bs (pad l)) _ hSw.2 Tryz.undB rfl HIN.out) ?_
  · rfl
  · rfl
  · with_reducible rfl
 try simp only [Act.put, zA]
 refine qT 13 ?ve13 ?ye13 HS ?re13
 case ye13 =>
  refine qI fun wS hSw => ?_
  refine Eq.trans (exec_build 143 #[(0, .tmp 34), (1, .tmp 41)] ?_ #[(0, .int .i64 (i : Int)), (1, .agg (bs (pad l)).toArray)] ?_ _ (built_write (i : Int) (bs (pad l)) HP.out)) ?_
  · rfl
  · simp only [List.map_toArray, List.map_cons, List.map_nil]; rfl
  · with_reducible rfl
 try simp only [Act.put, zA]
 refine wpAnyH_ready (rs := [4, 14]) (by kernel_rfl) (by simp) ?_
 refine (AllReadyH.cons (o := ?oe4) ?hoe4 (fun K hK => ?stepe4) (AllReadyH.cons (o := ?oe14) ?hoe14 (fun K hK => ?stepe14) AllReadyH.nil))
 case hoe4 => simp only [zD, zE, zF]; exact rfl
 case hoe14 => simp only [zD, zE, zF]; exact rfl
 case stepe4 =>
  go_simp
  refine hK.out _ _ ⟨by simpa using y1, by have := HM.out.seen.row i HI.out; rw [upd_same] at this; simpa using this⟩ (fun HS => ?_)
  clear hK K
  try simp only [Act.put, zA]
  refine qR 14 fun K hK => ?_
  rw [if_pos (by rfl)]
  obtain ⟨ie, hie, hz0, hz1, hz2⟩ := info_parts Tryz.infoW
  refine wp_buildSlice 106 143 1 _ rfl (.int .i64 (i : Int) :: bs (pad l)).toArray ie _ Tryz.underlying106 hie hz0 (by rw [hz1]; decide) (by rw [hz1]; decide) (by rw [hz1]; simp only [List.map_toArray, List.map_cons, List.map_nil]; exact filled_write (i : Int) (bs (pad l)) HP.out) ?_
  refine hK.out _ _ ⟨by have h0 := (HM.out.alloc (((Below.refl _ _).drew).alloc (nl _) (.cells (.int .i64 (i : Int) :: bs (pad l)).toArray 143) : Below w3.heap.size w3 _)).blk.cell 1; simpa using h0, by have := (HM.out.alloc (((Below.refl _ _).drew).alloc (nl _) (.cells (.int .i64 (i : Int) :: bs (pad l)).toArray 143) : Below w3.heap.size w3 _)).seen.row i HI.out; rw [upd_same] at this; exact this⟩ (fun HS => ?_)
  clear hK K
  try simp only [Act.put, zA]
  have hM4 : Mid w1 (w3.drew.alloc (.cells (.int .i64 (i : Int) :: bs (pad l)).toArray 143)) F1 g s1 k q A1 c1 i (pad l) := HM.out.alloc (((Below.refl _ _).drew).alloc (nl _) _)
  have hN4 : (w3.drew.alloc (.cells (.int .i64 (i : Int) :: bs (pad l)).toArray 143)).rangeAt w3.heap.size 0 (.int .i64 (i : Int) :: bs (pad l)) := fun j v hv => by
   have := (Blk.new w3.drew 143 (.int .i64 (i : Int) :: bs (pad l)).toArray).cell (0 + j)
   rw [show w3.heap.size = w3.drew.heap.size by simp, this, Nat.zero_add]
   simpa using hv
  have hS4 : (w3.drew.alloc (.cells (.int .i64 (i : Int) :: bs (pad l)).toArray 143)).heap.size = w3.heap.size + 1 := by simp
  have hK4 := hid hM4.kp.size
  generalize (w3.drew.alloc (.cells (.int .i64 (i : Int) :: bs (pad l)).toArray 143)) = w4 at *
  have HM4 := hid hM4
  have HN4 := hid hN4
  clear hM4 hN4 HS HM
  refine qR 15 fun K hK => ?_
  rw [if_pos (by rfl)]
  refine wp_append_w _ _ rfl A1 s1.W.length c1 (wcs s1.W) rfl HM4.out.wait w3.heap.size rfl (.int .i64 (i : Int) :: bs (pad l)) (by rw [List.length_cons, HP.out]) HN4.out (fun u hu => by rcases List.mem_cons.1 hu with rfl | hu; rfl; exact bs_one _ u hu) HWl.out ?_
  intro A5 c5 w5 ho5 hg5 hA5
  have HL5 := hid (Mid.left HD.out HI.out (by rw [HL.out]; exact HN.out) HM4.out ho5 hg5 hA5)
  have eg5 : w5.heap[g]? = w4.heap[g]? := hg5.block g HM4.out.blk.lt (fun e => (HD.out.Ag g e.symm).1 rfl)
  have eq5 : w5.heap[q]? = w4.heap[q]? := hg5.block q HM4.out.seen.lt (fun e => (HD.out.Ag q e.symm).2.2.1 rfl)
  have f5 := (HM4.out.blk.keep eg5).frozen 2
  have u1 := (HM4.out.blk.keep eg5).cell 1
  have u2 := (HM4.out.blk.keep eg5).cell 2
  simp at u1 u2
  have HR5 : Hid (w5.rangeAt q (i * 16) (bs (pad l))) := hid (by have := rangeAt_keep (HM4.out.seen.row i HI.out) eq5; rw [upd_same] at this; exact this)
  clear ho5 hg5 hA5 eg5 eq5
  refine hK.out _ _ ⟨u1, HR5.out⟩ (fun HS => ?_)
  clear hK K
  try simp only [Act.put, zA]
  refine qT 16 ?vea16 ?yea16 HS ?rea16
  case yea16 => refine qI fun wS hSw => ?_; go_simp; try with_reducible rfl
  try simp only [Act.put, zA]
  refine qT 17 ?vea17 ?yea17 HS ?rea17
  case yea17 => refine qI fun wS hSw => ?_; go_simp; try with_reducible rfl
  try simp only [Act.put, zA]
  refine qR 18 fun K hK => ?_
  go_simp
  refine hK.out _ _ ⟨by have h0 := World.cell?_setCell_other w5 ⟨g, 2, none⟩ ⟨g, 1, none⟩ (.slice A5 (s1.W.length + 1) c5) (by simp); rw [h0]; exact u1, rangeAt_keep HR5.out (Below.heap_setCell w5 ⟨g, 2, none⟩ _ q (fun e => HD.out.gq e.symm))⟩ (fun HS => ?_)
  clear hK K
  try simp only [Act.put]
  refine qD ?_
  clear HS HR5 u1 u2 f5
  go_wp2
  go_ret
  exact ⟨rfl, Left.after HK1.out HF1.out HL5.out⟩
 case stepe14 =>
  rw [if_pos (by rfl)]
  obtain ⟨ie, hie, hz0, hz1, hz2⟩ := info_parts Tryz.infoW
  refine wp_buildSlice 106 143 1 _ rfl (.int .i64 (i : Int) :: bs (pad l)).toArray ie _ Tryz.underlying106 hie hz0 (by rw [hz1]; decide) (by rw [hz1]; decide) (by rw [hz1]; simp only [List.map_toArray, List.map_cons, List.map_nil]; exact filled_write (i : Int) (bs (pad l)) HP.out) ?_
  refine hK.out _ _ ⟨by have h0 := (HM.out.alloc (((Below.refl _ _).drew).alloc (nl _) (.cells (.int .i64 (i : Int) :: bs (pad l)).toArray 143) : Below w3.heap.size w3 _)).blk.cell 1; simpa using h0, by have := (HM.out.alloc (((Below.refl _ _).drew).alloc (nl _) (.cells (.int .i64 (i : Int) :: bs (pad l)).toArray 143) : Below w3.heap.size w3 _)).seen.row i HI.out; rw [upd_same] at this; exact this⟩ (fun HS => ?_)
  clear hK K
  try simp only [Act.put, zA]
  have yd : (w3.drew.alloc (.cells (.int .i64 (i : Int) :: bs (pad l)).toArray 143)).cell? ⟨g, 2, none⟩ = some (.slice A1 s1.W.length c1) := by have h0 := (HM.out.alloc (((Below.refl _ _).drew).alloc (nl _) (.cells (.int .i64 (i : Int) :: bs (pad l)).toArray 143) : Below w3.heap.size w3 _)).blk.cell 2; simpa using h0
  refine qR 4 fun K hK => ?_
  rw [if_pos (by rfl)]
  refine wp_load_slice 106 (.tmp 32) rfl 143 Tryz.underlying106 g 2 rfl _ yd ?_
  refine hK.out _ _ ⟨by have h0 := (HM.out.alloc (((Below.refl _ _).drew).alloc (nl _) (.cells (.int .i64 (i : Int) :: bs (pad l)).toArray 143) : Below w3.heap.size w3 _)).blk.cell 1; simpa using h0, by have := (HM.out.alloc (((Below.refl _ _).drew).alloc (nl _) (.cells (.int .i64 (i : Int) :: bs (pad l)).toArray 143) : Below w3.heap.size w3 _)).seen.row i HI.out; rw [upd_same] at this; exact this⟩ (fun HS => ?_)
  clear hK K
  try simp only [Act.put, zA]
  clear yd
  have hM4 : Mid w1 (w3.drew.alloc (.cells (.int .i64 (i : Int) :: bs (pad l)).toArray 143)) F1 g s1 k q A1 c1 i (pad l) := HM.out.alloc (((Below.refl _ _).drew).alloc (nl _) _)
  have hN4 : (w3.drew.alloc (.cells (.int .i64 (i : Int) :: bs (pad l)).toArray 143)).rangeAt w3.heap.size 0 (.int .i64 (i : Int) :: bs (pad l)) := fun j v hv => by
   have := (Blk.new w3.drew 143 (.int .i64 (i : Int) :: bs (pad l)).toArray).cell (0 + j)
   rw [show w3.heap.size = w3.drew.heap.size by simp, this, Nat.zero_add]
   simpa using hv
  have hS4 : (w3.drew.alloc (.cells (.int .i64 (i : Int) :: bs (pad l)).toArray 143)).heap.size = w3.heap.size + 1 := by simp
  have hK4 := hid hM4.kp.size
  generalize (w3.drew.alloc (.cells (.int .i64 (i : Int) :: bs (pad l)).toArray 143)) = w4 at *
  have HM4 := hid hM4
  have HN4 := hid hN4
  clear hM4 hN4 HS HM
  refine qR 15 fun K hK => ?_
  rw [if_pos (by rfl)]
  refine wp_append_w _ _ rfl A1 s1.W.length c1 (wcs s1.W) rfl HM4.out.wait w3.heap.size rfl (.int .i64 (i : Int) :: bs (pad l)) (by rw [List.length_cons, HP.out]) HN4.out (fun u hu => by rcases List.mem_cons.1 hu with rfl | hu; rfl; exact bs_one _ u hu) HWl.out ?_
  intro A5 c5 w5 ho5 hg5 hA5
  have HL5 := hid (Mid.left HD.out HI.out (by rw [HL.out]; exact HN.out) HM4.out ho5 hg5 hA5)
  have eg5 : w5.heap[g]? = w4.heap[g]? := hg5.block g HM4.out.blk.lt (fun e => (HD.out.Ag g e.symm).1 rfl)
  have eq5 : w5.heap[q]? = w4.heap[q]? := hg5.block q HM4.out.seen.lt (fun e => (HD.out.Ag q e.symm).2.2.1 rfl)
  have f5 := (HM4.out.blk.keep eg5).frozen 2
  have u1 := (HM4.out.blk.keep eg5).cell 1
  have u2 := (HM4.out.blk.keep eg5).cell 2
  simp at u1 u2
  have HR5 : Hid (w5.rangeAt q (i * 16) (bs (pad l))) := hid (by have := rangeAt_keep (HM4.out.seen.row i HI.out) eq5; rw [upd_same] at this; exact this)
  clear ho5 hg5 hA5 eg5 eq5
  refine hK.out _ _ ⟨u1, HR5.out⟩ (fun HS => ?_)
  clear hK K
  try simp only [Act.put, zA]
  refine qT 16 ?veb16 ?yeb16 HS ?reb16
  case yeb16 => refine qI fun wS hSw => ?_; go_simp; try with_reducible rfl
  try simp only [Act.put, zA]
  refine qT 17 ?veb17 ?yeb17 HS ?reb17
  case yeb17 => refine qI fun wS hSw => ?_; go_simp; try with_reducible rfl
  try simp only [Act.put, zA]
  refine qR 18 fun K hK => ?_
  go_simp
  refine hK.out _ _ ⟨by have h0 := World.cell?_setCell_other w5 ⟨g, 2, none⟩ ⟨g, 1, none⟩ (.slice A5 (s1.W.length + 1) c5) (by simp); rw [h0]; exact u1, rangeAt_keep HR5.out (Below.heap_setCell w5 ⟨g, 2, none⟩ _ q (fun e => HD.out.gq e.symm))⟩ (fun HS => ?_)
  clear hK K
  try simp only [Act.put]
  refine qD ?_
  clear HS HR5 u1 u2 f5
  go_wp2
  go_ret
  exact ⟨rfl, Left.after HK1.out HF1.out HL5.out⟩
end Go.Proofs.YtolaojkcofbkhaaGreat
