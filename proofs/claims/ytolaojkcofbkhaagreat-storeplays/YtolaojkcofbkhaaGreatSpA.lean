import Derived.Test.YtolaojkcofbkhaaGreatMemO
namespace Go.Proofs.YtolaojkcofbkhaaGreat
set_option maxRecDepth 100000
set_option maxHeartbeats 2000000
open Go.RowKit
structure Sp where
 T : List Bool
 r : Nat
structure Sp.ok (s : Sp) : Prop where
 n1 : 1 ≤ s.T.length
 n2 : s.T.length ≤ 4096
 r1 : s.r ≤ s.T.length
 res : ∀ i, i < s.r → s.T[i]? = some true
def Sp.hs (s : Sp) (i : Int) : Bool := decide (0 ≤ i) && decide (i < (s.T.length : Int))
def Sp.tk (s : Sp) (i : Int) : Bool := decide (0 ≤ i) && s.T.getD i.toNat false
def Sp.fr (s : Sp) (i : Int) : Bool := decide (0 ≤ i) && !s.T.getD i.toNat true
def Sp.gv (s : Sp) (i : Int) : Bool := s.tk i && decide ((s.r : Int) ≤ i)
def Sp.put (s : Sp) (i : Nat) (b : Bool) : Sp := { s with T := s.T.set i b }
def Sp.mark (s : Sp) (i : Int) : Sp := if s.fr i then s.put i.toNat true else s
def Sp.give (s : Sp) (i : Int) : Sp := if s.gv i then s.put i.toNat false else s
def Sp.least (s : Sp) : Nat := s.T.idxOf false
def Sp.any (s : Sp) : Bool := decide (s.least < s.T.length)
def Sp.takeN (s : Sp) : Nat := if s.any then s.least else 0
def Sp.take (s : Sp) : Sp := s.put s.least true
def Sp.free (s : Sp) : Nat := s.T.count false
theorem Sp.put_len (s : Sp) (i : Nat) (b : Bool) : (s.put i b).T.length = s.T.length := by simp [Sp.put]
theorem Sp.ok.put {s : Sp} (h : s.ok) (i : Nat) (b : Bool) (hb : b = true ∨ s.r ≤ i) : (s.put i b).ok := by
 refine ⟨by rw [Sp.put_len]; exact h.n1, by rw [Sp.put_len]; exact h.n2, by rw [Sp.put_len]; exact h.r1, fun j hj => ?_⟩
 have hj' : j < s.r := hj
 have := h.res j hj'
 show (s.T.set i b)[j]? = _
 rw [List.getElem?_set]
 split
 · subst_vars
   have hl := h.r1
   rcases hb with rfl | hb
   · rw [if_pos (by omega)]
   · omega
 · exact this
theorem Sp.tk_out (s : Sp) (i : Int) (h : s.hs i = false) : s.tk i = false := by
 unfold Sp.hs at h; unfold Sp.tk
 rcases Int.lt_or_le i 0 with h0 | h0
 · simp [Int.not_le.2 h0]
 · simp [h0] at h
   simp [List.getElem?_eq_none (show s.T.length ≤ i.toNat by omega)]
theorem Sp.fr_out (s : Sp) (i : Int) (h : s.hs i = false) : s.fr i = false := by
 unfold Sp.hs at h; unfold Sp.fr
 rcases Int.lt_or_le i 0 with h0 | h0
 · simp [Int.not_le.2 h0]
 · simp [h0] at h
   simp [List.getElem?_eq_none (show s.T.length ≤ i.toNat by omega)]
theorem Sp.hs_in (s : Sp) (i : Int) (h : s.hs i = true) : ∃ (j : Nat) (b : Bool), i = (j : Int) ∧ j < s.T.length ∧ s.T[j]? = some b := by
 unfold Sp.hs at h
 simp at h
 exact ⟨i.toNat, s.T[i.toNat]'(by omega), by omega, by omega, by simp⟩
theorem Sp.hs_of (s : Sp) (j : Nat) (h : j < s.T.length) : s.hs (j : Int) = true := by
 unfold Sp.hs; simp; omega
theorem Sp.lt_of {s : Sp} {j : Nat} {b : Bool} (h : s.T[j]? = some b) : j < s.T.length := (List.getElem?_eq_some_iff.1 h).1
theorem Sp.tk_in {s : Sp} {j : Nat} {b : Bool} (h : s.T[j]? = some b) : s.tk (j : Int) = b := by simp [Sp.tk, h]
theorem Sp.fr_in {s : Sp} {j : Nat} {b : Bool} (h : s.T[j]? = some b) : s.fr (j : Int) = !b := by simp [Sp.fr, h]
theorem Sp.fr_iff (s : Sp) (i : Int) : s.fr i = true ↔ ∃ j : Nat, i = (j : Int) ∧ s.T[j]? = some false := by
 constructor
 · intro h
   cases hh : s.hs i with
   | false => rw [s.fr_out i hh] at h; cases h
   | true =>
    obtain ⟨j, b, rfl, _, hb⟩ := s.hs_in i hh
    rw [Sp.fr_in hb] at h
    cases b
    · exact ⟨j, rfl, hb⟩
    · cases h
 · rintro ⟨j, rfl, h⟩
   rw [Sp.fr_in h]; rfl
theorem Sp.gv_iff (s : Sp) (i : Int) : s.gv i = true ↔ ∃ j : Nat, i = (j : Int) ∧ s.T[j]? = some true ∧ s.r ≤ j := by
 constructor
 · intro h
   unfold Sp.gv at h
   rw [Bool.and_eq_true] at h
   obtain ⟨h1, h2⟩ := h
   cases hh : s.hs i with
   | false => rw [s.tk_out i hh] at h1; cases h1
   | true =>
    obtain ⟨j, b, rfl, _, hb⟩ := s.hs_in i hh
    rw [Sp.tk_in hb] at h1
    subst h1
    exact ⟨j, rfl, hb, by simpa using h2⟩
 · rintro ⟨j, rfl, h, hr⟩
   unfold Sp.gv
   rw [Sp.tk_in h]
   simpa using hr
theorem Sp.give_len (s : Sp) (i : Int) : (s.give i).T.length = s.T.length := by unfold Sp.give; split <;> simp [Sp.put_len]
theorem Sp.take_len (s : Sp) : s.take.T.length = s.T.length := by unfold Sp.take; simp [Sp.put_len]
theorem Sp.give_r (s : Sp) (i : Int) : (s.give i).r = s.r := by unfold Sp.give; split <;> rfl
theorem idx_of {l : List Bool} {j : Nat} (h : ∀ i, i < j → l[i]? = some true) (hj : l[j]? = some false) : l.idxOf false = j := by
 induction l generalizing j with
 | nil => simp at hj
 | cons a r ih =>
  cases j with
  | zero => simp at hj; subst hj; simp
  | succ j =>
   have h0 := h 0 (by omega)
   simp at h0
   subst h0
   rw [List.idxOf_cons]
   simp
   exact ih (fun i hi => by have := h (i + 1) (by omega); simpa using this) (by simpa using hj)
theorem idx_none {l : List Bool} (h : ∀ i, i < l.length → l[i]? = some true) : l.idxOf false = l.length := by
 induction l with
 | nil => rfl
 | cons a r ih =>
  have h0 := h 0 (by simp)
  simp at h0
  subst h0
  rw [List.idxOf_cons]
  simp
  exact ih fun i hi => by have := h (i + 1) (by simp; omega); simpa using this
def bls (l : List Bool) : List Value := l.map .bool
theorem bls_len (l : List Bool) : (bls l).length = l.length := by simp [bls]
structure Mp (w : World) (g k : Nat) (s : Sp) : Prop where
 blk : Blk w g 173 #[.slice (some ⟨k, 0, none⟩) s.T.length s.T.length, .int .i64 (s.r : Int)]
 row : Blk w k 4 (bls s.T).toArray
 ok : s.ok
section
variable {w w' : World} {g k : Nat} {s : Sp}
theorem Mp.ne (h : Mp w g k s) : g ≠ k := fun e => by
 subst e
 have := h.blk.symm.trans h.row
 injection this with this
 injection this with _ h2 _
 revert h2
 decide
theorem Mp.keep (h : Mp w g k s) (hg : w'.heap[g]? = w.heap[g]?) (hk : w'.heap[k]? = w.heap[k]?) : Mp w' g k s := ⟨h.blk.keep hg, h.row.keep hk, h.ok⟩
theorem Mp.bel (h : Mp w g k s) (hb : Below w.heap.size w w') : Mp w' g k s := h.keep (hb.block g h.blk.lt) (hb.block k h.row.lt)
theorem Mp.kp {F : Nat → Prop} (h : Mp w g k s) (hk : Kp F w w') (hg : ¬ F g) (hr : ¬ F k) : Mp w' g k s := h.keep (hk.block g h.blk.lt hg) (hk.block k h.row.lt hr)
theorem Mp.cells (h : Mp w g k s) : w.cell? ⟨g, 0, none⟩ = some (.slice (some ⟨k, 0, none⟩) s.T.length s.T.length) ∧ w.cell? ⟨g, 1, none⟩ = some (.int .i64 (s.r : Int)) := by
 have h0 := h.blk.cell 0
 have h1 := h.blk.cell 1
 simp at h0 h1
 exact ⟨h0, h1⟩
theorem Mp.at_ (h : Mp w g k s) {j : Nat} {b : Bool} (hb : s.T[j]? = some b) : w.cell? ⟨k, j, none⟩ = some (.bool b) := by
 rw [h.row.cell j]
 simp [bls, hb]
theorem Mp.put (h : Mp w g k s) (j : Nat) (b : Bool) (ho : (s.put j b).ok) : Mp (w.setCell ⟨k, j, none⟩ (.bool b)) g k (s.put j b) := by
 have hr := h.row.store j (.bool b)
 refine ⟨?_, ?_, ho⟩
 · have := h.blk.keep ((grown_setCell w k j (.bool b)).block g h.blk.lt (fun e => h.ne (by injection e)))
   rw [Sp.put_len]
   exact this
 · have e : (bls s.T).toArray.setIfInBounds j (.bool b) = (bls (s.put j b).T).toArray := by
    apply Array.toList_inj.1
    simp [bls, Sp.put, List.map_set]
   rwa [e] at hr
end
def MLeft (w w' : World) (g k : Nat) (s : Sp) : Prop := Mp w' g k s ∧ Kp (fun j => j = k) w w'
theorem MLeft.same {w : World} {g k : Nat} {s : Sp} (h : Mp w g k s) : MLeft w w g k s := ⟨h, Kp.refl _ _⟩
theorem Mp.left {w : World} {g k : Nat} {s : Sp} (h : Mp w g k s) (j : Nat) (b : Bool) (ho : (s.put j b).ok) : MLeft w (w.setCell ⟨k, j, none⟩ (.bool b)) g k (s.put j b) := ⟨h.put j b ho, Kp.setCell w k j _ rfl⟩
theorem sblocks_c (w : World) (g k : Nat) (s : Sp) (h : Mp w g k s) :
 Calls Tryz.prog 106 #[.pointer (some ⟨g, 0, none⟩)] w fun e w' => e = .returned (.int .i64 (s.T.length : Int)) ∧ w = w' := by
 obtain ⟨h0, h1⟩ := h.cells
 clear h
 go_enter Tryz.func106, Tryz.ntmps106
 go_wp2
 go_ret
 exact ⟨rfl, rfl⟩
theorem has_c (w : World) (g k : Nat) (s : Sp) (h : Mp w g k s) (i : Int) :
 Calls Tryz.prog 86 #[.pointer (some ⟨g, 0, none⟩), .int .i64 i] w fun e w' => e = .returned (.bool (s.hs i)) ∧ w = w' := by
 have hb := sblocks_c w g k s h
 clear h
 have HE : Hid (s.hs i = (decide (0 ≤ i) && decide (i < (s.T.length : Int)))) := hid rfl
 by_cases h0 : 0 ≤ i
 · have e1 : decide (0 ≤ i) = true := by simpa using h0
   have e2 : decide (i ≥ 0) = true := by simpa using h0
   rw [HE.out, e1, Bool.true_and]
   clear HE h0
   go_enter Tryz.func86, Tryz.ntmps86
   go_wp2_with fail
   refine hb.mono ?_
   rintro e w' ⟨rfl, rfl⟩
   go_wp2
   go_ret
   exact ⟨rfl, rfl⟩
 · have e1 : decide (0 ≤ i) = false := by simpa using h0
   have e2 : decide (i ≥ 0) = false := by simpa using h0
   rw [HE.out, e1, Bool.false_and]
   clear HE h0
   go_enter Tryz.func86, Tryz.ntmps86
   go_wp2
   go_ret
   exact ⟨rfl, rfl⟩
theorem taken_c (w : World) (g k : Nat) (s : Sp) (h : Mp w g k s) (i : Int) :
 Calls Tryz.prog 123 #[.pointer (some ⟨g, 0, none⟩), .int .i64 i] w fun e w' => e = .returned (.bool (s.tk i)) ∧ w = w' := by
 have hb := has_c w g k s h i
 cases hh : s.hs i with
 | false =>
  rw [s.tk_out i hh]
  rw [hh] at hb
  clear h hh
  go_enter Tryz.func123, Tryz.ntmps123
  go_wp2_with fail
  refine hb.mono ?_
  rintro e w' ⟨rfl, rfl⟩
  go_wp2
  go_ret
  exact ⟨rfl, rfl⟩
 | true =>
  rw [hh] at hb
  obtain ⟨j, b, rfl, hj, hjb⟩ := s.hs_in i hh
  rw [Sp.tk_in hjb]
  obtain ⟨h0, -⟩ := h.cells
  have hc := h.at_ hjb
  have i1 : (0 : Int) ≤ (j : Int) := by omega
  have i2 : (j : Int) < (s.T.length : Int) := by omega
  clear h hh hjb hj
  generalize s.T.length = n at *
  go_enter Tryz.func123, Tryz.ntmps123
  go_wp2_with fail
  refine hb.mono ?_
  rintro e w' ⟨rfl, rfl⟩
  go_wp2
  go_ret
  exact ⟨rfl, rfl⟩
theorem mark_no (w : World) (g k : Nat) (s : Sp) (h : Mp w g k s) (i : Int) (hf : s.fr i = false) :
 Calls Tryz.prog 48 #[.pointer (some ⟨g, 0, none⟩), .int .i64 i] w fun e w' => e = .returned (.bool false) ∧ w = w' := by
 have hb := has_c w g k s h i
 cases hh : s.hs i with
 | false =>
  rw [hh] at hb
  clear h hh hf
  go_enter Tryz.func48, Tryz.ntmps48
  go_wp2_with fail
  refine hb.mono ?_
  rintro e w' ⟨rfl, rfl⟩
  go_wp2
  go_ret
  exact ⟨rfl, rfl⟩
 | true =>
  rw [hh] at hb
  obtain ⟨j, b, rfl, hj, hjb⟩ := s.hs_in i hh
  rw [Sp.fr_in hjb] at hf
  obtain rfl : b = true := by simpa using hf
  obtain ⟨h0, -⟩ := h.cells
  have hc := h.at_ hjb
  have i1 : (0 : Int) ≤ (j : Int) := by omega
  have i2 : (j : Int) < (s.T.length : Int) := by omega
  clear h hh hjb hj hf
  generalize s.T.length = n at *
  go_enter Tryz.func48, Tryz.ntmps48
  go_wp2_with fail
  refine hb.mono ?_
  rintro e w' ⟨rfl, rfl⟩
  go_wp2
  go_ret
  exact ⟨rfl, rfl⟩
theorem mark_yes (w : World) (g k : Nat) (s : Sp) (h : Mp w g k s) (j : Nat) (hjb : s.T[j]? = some false) :
 Calls Tryz.prog 48 #[.pointer (some ⟨g, 0, none⟩), .int .i64 (j : Int)] w fun e w' => e = .returned (.bool true) ∧ MLeft w w' g k (s.put j true) := by
 have hb := has_c w g k s h j
 rw [s.hs_of j (Sp.lt_of hjb)] at hb
 obtain ⟨h0, -⟩ := h.cells
 have hc := h.at_ hjb
 have hj := Sp.lt_of hjb
 have i1 : (0 : Int) ≤ (j : Int) := by omega
 have i2 : (j : Int) < (s.T.length : Int) := by omega
 have hf := h.row.frozen j
 have HL := hid (h.left j true (h.ok.put _ _ (.inl rfl)))
 clear h hjb hj
 generalize s.T.length = n at *
 go_enter Tryz.func48, Tryz.ntmps48
 go_wp2_with fail
 refine hb.mono ?_
 rintro e w' ⟨rfl, rfl⟩
 go_wp2
 go_ret
 exact ⟨rfl, HL.out⟩
theorem mark_any (w : World) (g k : Nat) (s : Sp) (h : Mp w g k s) (i : Int) :
 Calls Tryz.prog 48 #[.pointer (some ⟨g, 0, none⟩), .int .i64 i] w fun e w' => e = .returned (.bool (s.fr i)) ∧ MLeft w w' g k (s.mark i) := by
 cases hf : s.fr i with
 | false =>
  refine (mark_no w g k s h i hf).mono ?_
  rintro e w' ⟨rfl, rfl⟩
  exact ⟨rfl, by unfold Sp.mark; rw [hf]; exact .same h⟩
 | true =>
  obtain ⟨j, rfl, hj⟩ := (s.fr_iff i).1 hf
  refine (mark_yes w g k s h j hj).mono ?_
  rintro e w' ⟨rfl, hL⟩
  exact ⟨rfl, by unfold Sp.mark; rw [hf]; exact hL⟩
theorem give_any (w : World) (g k : Nat) (s : Sp) (h : Mp w g k s) (i : Int) :
 Calls Tryz.prog 93 #[.pointer (some ⟨g, 0, none⟩), .int .i64 i] w fun e w' => e = .returned (.bool (s.gv i)) ∧ MLeft w w' g k (s.give i) := by
 have hb := taken_c w g k s h i
 obtain ⟨h0, h1⟩ := h.cells
 cases hg : s.gv i with
 | true =>
  obtain ⟨j, rfl, hjb, hr⟩ := (s.gv_iff i).1 hg
  rw [Sp.tk_in hjb] at hb
  have hc := h.at_ hjb
  have hj := Sp.lt_of hjb
  have i1 : (0 : Int) ≤ (j : Int) := by omega
  have i2 : (j : Int) < (s.T.length : Int) := by omega
  have i3 : decide ((j : Int) < (s.r : Int)) = false := by simp; omega
  have i4 : decide (j < s.r) = false := by simp; omega
  have hf := h.row.frozen j
  have HL : Hid (MLeft w (w.setCell ⟨k, j, none⟩ (.bool false)) g k (s.give j)) := hid (by unfold Sp.give; rw [hg]; exact h.left j false (h.ok.put _ _ (.inr hr)))
  clear h hjb hj hg hr
  generalize s.T.length = n at *
  go_enter Tryz.func93, Tryz.ntmps93
  go_wp2_with fail
  refine hb.mono ?_
  rintro e w' ⟨rfl, rfl⟩
  go_wp2
  go_ret
  exact ⟨rfl, HL.out⟩
 | false =>
  have HL : Hid (MLeft w w g k (s.give i)) := hid (by unfold Sp.give; rw [hg]; exact .same h)
  unfold Sp.gv at hg
  cases ht : s.tk i with
  | false =>
   rw [ht] at hb
   clear h hg ht
   go_enter Tryz.func93, Tryz.ntmps93
   go_wp2_with fail
   refine hb.mono ?_
   rintro e w' ⟨rfl, rfl⟩
   go_wp2
   go_ret
   exact ⟨rfl, HL.out⟩
  | true =>
   rw [ht] at hb hg
   have i3 : decide (i < (s.r : Int)) = true := by simpa using hg
   clear h hg ht
   go_enter Tryz.func93, Tryz.ntmps93
   go_wp2_with fail
   refine hb.mono ?_
   rintro e w' ⟨rfl, rfl⟩
   go_wp2
   go_ret
   exact ⟨rfl, HL.out⟩
theorem take_any (w : World) (g k : Nat) (s : Sp) (h : Mp w g k s) :
 Calls Tryz.prog 92 #[.pointer (some ⟨g, 0, none⟩)] w fun e w' => e = .returned (.tuple #[.int .i64 (s.takeN : Int), .bool s.any]) ∧ MLeft w w' g k s.take := by
 have hb := sblocks_c w g k s h
 have HM := hid h
 have HN : Hid (s.T.length ≤ 4096) := hid h.ok.n2
 clear h
 generalize hn : s.T.length = n at *
 have HNE := hid hn
 clear hn
 go_enter Tryz.func92, Tryz.ntmps92
 go_wp2_with fail
 refine hb.mono ?_
 rintro e w' ⟨rfl, rfl⟩
 clear hb
 go_wp2_with fail
 go_loopw [7] (fun iv wr => ∃ j : Nat, iv = .int .i64 (j : Int) ∧ Hid (j ≤ n) ∧ Hid (∀ i, i < j → s.T[i]? = some true) ∧ w = wr) (fun iv _ => n - (intOf iv).toNat)
 case atStart => exact ⟨0, rfl, hid (Nat.zero_le _), hid (fun i hi => absurd hi (by omega)), rfl⟩
 case round =>
  obtain ⟨j, rfl, hj, hT, rfl⟩ := hrel
  rcases Nat.lt_or_ge j n with hlt | hge
  · have j3 : decide ((j : Int) < (n : Int)) = true := by simpa using hlt
    have j4 : decide (j < n) = true := by simpa using hlt
    have wj : wrap64 ((j : Int) + 1) = ((j + 1 : Nat) : Int) := by have := HN.out; unfold wrap64; omega
    have HLT := hid hlt
    obtain ⟨b, hjb⟩ : ∃ b, s.T[j]? = some b := ⟨s.T[j]'(by have := HNE.out; omega), by simp⟩
    cases b with
    | false =>
     have hc := mark_yes w g k s HM.out j hjb
     have hl : s.least = j := idx_of hT.out hjb
     have ha : s.any = true := by unfold Sp.any; rw [hl]; simpa using Sp.lt_of hjb
     have HE : Hid (s.takeN = j ∧ s.any = true ∧ s.take = s.put j true) := hid ⟨by unfold Sp.takeN; rw [ha, hl]; rfl, ha, by unfold Sp.take; rw [hl]⟩
     clear hl ha hjb
     go_wp2_with fail
     refine hc.mono ?_
     rintro e w' ⟨rfl, hL⟩
     have HL := hid hL
     clear hc hL
     go_wp2
     go_ret2
     exact ⟨by rw [HE.out.1, HE.out.2.1]; rfl, by rw [HE.out.2.2]; exact HL.out⟩
    | true =>
     have hc := mark_no w g k s HM.out j (by rw [Sp.fr_in hjb]; rfl)
     have HT : Hid (∀ i, i < j + 1 → s.T[i]? = some true) := hid (fun i hi => by
      rcases Nat.lt_or_ge i j with h | h
      · exact hT.out i h
      · have : i = j := by omega
        subst this; exact hjb)
     clear hjb hT
     go_wp2_with fail
     refine hc.mono ?_
     rintro e w' ⟨rfl, rfl⟩
     clear hc
     go_wp2
     exact ⟨⟨j + 1, congrArg (Value.int .i64) (by first | exact wj | omega), hid (by have := HLT.out; omega), HT, by first | rfl | trivial⟩, by (try rw [wj]); have := HLT.out; simp [intOf]; omega⟩
  · have j3 : decide ((j : Int) < (n : Int)) = false := by simp; omega
    have j4 : decide (j < n) = false := by simp; omega
    have hl : s.least = s.T.length := idx_none fun i hi => hT.out i (by have := HNE.out; omega)
    have ha : s.any = false := by unfold Sp.any; rw [hl]; simp
    have HE : Hid (s.takeN = 0 ∧ s.any = false ∧ s.take = s) := hid ⟨by unfold Sp.takeN; rw [ha]; rfl, ha, by unfold Sp.take Sp.put; rw [hl, List.set_eq_of_length_le (nl _)]⟩
    clear hl ha hT
    go_wp2
    go_ret2
    exact ⟨by rw [HE.out.1, HE.out.2.1]; rfl, by rw [HE.out.2.2]; exact .same HM.out⟩
theorem count_take (l : List Bool) (j : Nat) (b : Bool) (h : l[j]? = some b) : (l.take (j + 1)).count false = (l.take j).count false + if b then 0 else 1 := by
 obtain ⟨hj, rfl⟩ := List.getElem?_eq_some_iff.1 h
 rw [List.take_succ_eq_append_getElem hj, List.count_append]
 cases l[j] <;> rfl
theorem free_c (w : World) (g k : Nat) (s : Sp) (h : Mp w g k s) :
 Calls Tryz.prog 67 #[.pointer (some ⟨g, 0, none⟩)] w fun e w' => e = .returned (.int .i64 (s.free : Int)) ∧ w = w' := by
 have hb := sblocks_c w g k s h
 have HM := hid h
 have HN : Hid (s.T.length ≤ 4096) := hid h.ok.n2
 obtain ⟨h0, -⟩ := h.cells
 clear h
 generalize hn : s.T.length = n at *
 have HNE := hid hn
 clear hn
 go_enter Tryz.func67, Tryz.ntmps67
 go_wp2_with fail
 refine hb.mono ?_
 rintro e w' ⟨rfl, rfl⟩
 clear hb
 go_wp2_with fail
 go_loopw [3, 7] (fun nv iv wr => ∃ j q : Nat, nv = .int .i64 (q : Int) ∧ iv = .int .i64 (j : Int) ∧ Hid (j ≤ n) ∧ Hid (q = (s.T.take j).count false ∧ q ≤ j) ∧ w = wr) (fun _ iv _ => n - (intOf iv).toNat)
 case atStart => exact ⟨0, 0, rfl, rfl, hid (Nat.zero_le _), hid ⟨rfl, nl _⟩, rfl⟩
 case round =>
  obtain ⟨j, q, rfl, rfl, hj, hT, rfl⟩ := hrel
  rcases Nat.lt_or_ge j n with hlt | hge
  · have j1 : (0 : Int) ≤ (j : Int) := by omega
    have j2 : (j : Int) < (n : Int) := by omega
    have j3 : decide ((j : Int) < (n : Int)) = true := by simpa using hlt
    have j4 : decide (j < n) = true := by simpa using hlt
    have wj : wrap64 ((j : Int) + 1) = ((j + 1 : Nat) : Int) := by have := HN.out; unfold wrap64; omega
    have wq : wrap64 ((q : Int) + 1) = ((q + 1 : Nat) : Int) := by have := HN.out; have := hT.out.2; clear wj; unfold wrap64; omega
    have HLT := hid hlt
    obtain ⟨b, hjb⟩ : ∃ b, s.T[j]? = some b := ⟨s.T[j]'(by have := HNE.out; omega), by simp⟩
    have hc := HM.out.at_ hjb
    have hq := count_take s.T j b hjb
    cases b with
    | false =>
     have HQ : Hid (q + 1 = (s.T.take (j + 1)).count false ∧ q + 1 ≤ j + 1) := hid ⟨by rw [hq, ← hT.out.1]; rfl, by have := hT.out.2; omega⟩
     clear hq hjb hT
     go_wp2
     exact ⟨⟨j + 1, q + 1, congrArg (Value.int .i64) (by first | exact wq | omega), congrArg (Value.int .i64) (by first | exact wj | omega), hid (by have := HLT.out; omega), HQ, by first | rfl | trivial⟩, by (try rw [wj]); have := HLT.out; simp [intOf]; omega⟩
    | true =>
     have HQ : Hid (q = (s.T.take (j + 1)).count false ∧ q ≤ j + 1) := hid ⟨by rw [hq, ← hT.out.1]; rfl, by have := hT.out.2; omega⟩
     clear hq hjb hT wq
     go_wp2
     exact ⟨⟨j + 1, q, rfl, congrArg (Value.int .i64) (by first | exact wj | omega), hid (by have := HLT.out; omega), HQ, by first | rfl | trivial⟩, by (try rw [wj]); have := HLT.out; simp [intOf]; omega⟩
  · have j3 : decide ((j : Int) < (n : Int)) = false := by simp; omega
    have j4 : decide (j < n) = false := by simp; omega
    have HE : Hid (s.free = q) := hid (by unfold Sp.free; rw [hT.out.1, List.take_of_length_le (by have := HNE.out; omega)])
    clear hT
    go_wp2
    go_ret
    exact ⟨by rw [HE.out]; rfl, rfl⟩
def tf (n r : Nat) : List Bool := List.replicate r true ++ List.replicate (n - r) false
def Sp.new (n r : Nat) : Sp := ⟨tf n r, r⟩
theorem tf_len (n r : Nat) (h : r ≤ n) : (tf n r).length = n := by simp [tf]; omega
theorem tf_get (n r i : Nat) (h : r ≤ n) (hi : i < n) : (tf n r)[i]? = some (decide (i < r)) := by
 unfold tf
 rw [List.getElem?_append]
 split
 · rename_i hl
   simp at hl
   simp [hl]
 · rename_i hl
   simp at hl
   rw [List.getElem?_replicate, if_pos (by simp; omega)]
   simp; omega
theorem tf_set (n j : Nat) (h : j < n) : (tf n j).set j true = tf n (j + 1) := by
 apply List.ext_getElem?
 intro i
 rw [List.getElem?_set, tf_len n j (by omega)]
 rcases Nat.lt_or_ge i n with hi | hi
 · rw [tf_get n (j + 1) i (by omega) hi, tf_get n j i (by omega) hi]
   split
   · subst_vars
     simp
   · congr 1
     exact decide_eq_decide.2 (by omega)
 · rw [if_neg (by omega), List.getElem?_eq_none (by rw [tf_len n j (by omega)]; exact hi), List.getElem?_eq_none (by rw [tf_len n (j + 1) (by omega)]; exact hi)]
theorem Sp.new_ok (n r : Nat) (h1 : 1 ≤ n) (h2 : n ≤ 4096) (h3 : r ≤ n) : (Sp.new n r).ok :=
 ⟨by show 1 ≤ (tf n r).length; rw [tf_len n r h3]; exact h1, by show (tf n r).length ≤ _; rw [tf_len n r h3]; exact h2, by show r ≤ (tf n r).length; rw [tf_len n r h3]; exact h3, fun i hi => by
  have hi' : i < r := hi
  show (tf n r)[i]? = _
  rw [tf_get n r i h3 (by omega)]
  simpa using hi'⟩
theorem Tryz.infoBool : (Tryz.prog.info? 4).map (fun i => (i.zero, i.size, i.bytes)) = some (some (.bool false), 1, 1) := by kernel_rfl
theorem new_wrong (bl rs : Int) (w : World) (h : bl < 1 ∨ 4096 < bl ∨ rs < 0 ∨ bl < rs) :
 Calls Tryz.prog 47 #[.int .i64 bl, .int .i64 rs] w fun e w' => e = .returned (.tuple #[.pointer none, .int .i64 2]) ∧ w = w' := by
 have hc : decide (bl < 1) = true ∨ (decide (bl < 1) = false ∧ decide (4096 < bl) = true) ∨ (decide (bl < 1) = false ∧ decide (4096 < bl) = false ∧ decide (rs < 0) = true) ∨ (decide (bl < 1) = false ∧ decide (4096 < bl) = false ∧ decide (rs < 0) = false ∧ decide (bl < rs) = true) := by
  simp only [decide_eq_true_eq, decide_eq_false_iff_not]
  omega
 clear h
 rcases hc with e1 | ⟨e1, e2⟩ | ⟨e1, e2, e3⟩ | ⟨e1, e2, e3, e4⟩
 all_goals
  go_enter Tryz.func47, Tryz.ntmps47
  go_wp2
  go_ret2
  exact ⟨rfl, rfl⟩
theorem snew_c (bl rs : Int) (n r : Nat) (hbl : bl = (n : Int)) (hrs : rs = (r : Int)) (w : World) (h1 : 1 ≤ n) (h2 : n ≤ 4096) (h3 : r ≤ n) :
 Calls Tryz.prog 47 #[.int .i64 bl, .int .i64 rs] w fun e w' => ∃ g k, e = .returned (.tuple #[.pointer (some ⟨g, 0, none⟩), .int .i64 0]) ∧ Mp w' g k (Sp.new n r) ∧ Below w.heap.size w w' ∧ w.heap.size ≤ g ∧ w.heap.size ≤ k := by
 have e1 : decide (bl < 1) = false := by simp only [decide_eq_false_iff_not]; omega
 have e2 : decide (4096 < bl) = false := by simp only [decide_eq_false_iff_not]; omega
 have e3 : decide (rs < 0) = false := by simp only [decide_eq_false_iff_not]; omega
 have e4 : decide (bl < rs) = false := by simp only [decide_eq_false_iff_not]; omega
 have HB := hid hbl
 have HR := hid hrs
 have H1 := hid h1
 have H2 := hid h2
 have H3 := hid h3
 clear hbl hrs h1 h2 h3
 go_enter Tryz.func47, Tryz.ntmps47
 go_wp2_with (at_make; refine wpList_make_new _ rfl _ _ 52 rfl 4 (.bool false) 1 Tryz.underlying52 Tryz.infoBool rfl bl bl n n rfl rfl HB.out HB.out (nl _) (by have := H2.out; omega) (by have := H2.out; omega) ?_)
 intro w1 hz1 hg1 hs1
 have HZ : Hid (Blk w1 w.heap.size 4 (bls (tf n 0)).toArray) := hid (by have := hz1.out; unfold Blk; rw [this]; simp [zeros, bls, tf])
 have B1 : Hid (Below w.heap.size w w1) := hid ((Below.refl _ _).grown hg1 (nl _) (fun k hk => by cases hk))
 have HS1 := hid hs1
 clear hz1 hg1 hs1 e1 e2 e3 e4
 go_wp2_with fail
 have HG : Hid (Blk (w1.alloc (.cells #[.slice (some ⟨w.heap.size, 0, none⟩) n n, .int .i64 rs] 173)) w1.heap.size 173 #[.slice (some ⟨w.heap.size, 0, none⟩) n n, .int .i64 rs]) := hid (Blk.new _ _ _)
 have HK : Hid (Blk (w1.alloc (.cells #[.slice (some ⟨w.heap.size, 0, none⟩) n n, .int .i64 rs] 173)) w.heap.size 4 (bls (tf n 0)).toArray) := hid (HZ.out.keep (Below.heap_alloc w1 _ _ HS1.out))
 have B2 : Hid (Below w.heap.size w (w1.alloc (.cells #[.slice (some ⟨w.heap.size, 0, none⟩) n n, .int .i64 rs] 173))) := hid (B1.out.alloc B1.out.size _)
 generalize w1.alloc (.cells #[.slice (some ⟨w.heap.size, 0, none⟩) n n, .int .i64 rs] 173) = w2 at *
 generalize hg : w1.heap.size = g at *
 generalize hk : w.heap.size = k at *
 have HKE := hid hk
 clear hg hk B1 HZ
 go_loopw [29] (fun iv wr => ∃ j : Nat, iv = .int .i64 (j : Int) ∧ Hid (j ≤ r) ∧ Hid (Blk wr g 173 #[.slice (some ⟨k, 0, none⟩) n n, .int .i64 rs]) ∧ Hid (Blk wr k 4 (bls (tf n j)).toArray) ∧ Hid (Below k w wr)) (fun iv _ => r - (intOf iv).toNat)
 case atStart => exact ⟨0, rfl, hid (Nat.zero_le _), HG, HK, B2⟩
 case round =>
  obtain ⟨j, rfl, hj, hG, hK, hB⟩ := hrel
  clear HG HK B2
  rcases Nat.lt_or_ge j r with hlt | hge
  · have hjn : j < n := by have := H3.out; omega
    have j1 : (0 : Int) ≤ (j : Int) := by omega
    have j2 : (j : Int) < (n : Int) := by omega
    have j3 : decide ((j : Int) < rs) = true := by rw [HR.out]; simpa using hlt
    have wj : wrap64 ((j : Int) + 1) = ((j + 1 : Nat) : Int) := by have := H2.out; unfold wrap64; omega
    have c0 : wr.cell? ⟨g, 0, none⟩ = some (.slice (some ⟨k, 0, none⟩) n n) := by have := hG.out.cell 0; simpa using this
    have c1 : wr.cell? ⟨k, j, none⟩ = some (.bool false) := by
     rw [hK.out.cell j]
     have := tf_get n j j (by omega) hjn
     simp [bls, this]
    have f1 := hK.out.frozen j
    have HS1' := HS1.out
    have HG2 : Hid (Blk (wr.setCell ⟨k, j, none⟩ (.bool true)) g 173 #[.slice (some ⟨k, 0, none⟩) n n, .int .i64 rs]) := hid (hG.out.keep ((grown_setCell wr k j _).block g hG.out.lt (fun e => by injection e with e; omega)))
    have HK2 : Hid (Blk (wr.setCell ⟨k, j, none⟩ (.bool true)) k 4 (bls (tf n (j + 1))).toArray) := hid (by
     have := hK.out.store j (.bool true)
     have e : (bls (tf n j)).toArray.setIfInBounds j (.bool true) = (bls (tf n (j + 1))).toArray := by
      apply Array.toList_inj.1
      rw [← tf_set n j hjn]
      simp [bls, List.map_set]
     rwa [e] at this)
    have HB2 : Hid (Below k w (wr.setCell ⟨k, j, none⟩ (.bool true))) := hid (hB.out.grown (grown_setCell wr k j _) (by have := hB.out.size; have := HKE.out; omega) (fun x hx => by injection hx with hx; omega))
    have HLT := hid hlt
    clear hG hK hB hjn hlt HS1'
    go_wp2
    exact ⟨⟨j + 1, congrArg (Value.int .i64) (by first | exact wj | omega), hid (by have := HLT.out; omega), HG2, HK2, HB2⟩, by (try rw [wj]); have := HLT.out; simp [intOf]; omega⟩
  · have hjr : j = r := by have := hj.out; omega
    subst hjr
    have j3 : decide ((j : Int) < rs) = false := by rw [HR.out]; simp
    have HM : Hid (Mp wr g k (Sp.new n j)) := hid ⟨by show Blk wr g _ #[.slice _ (tf n j).length (tf n j).length, .int .i64 (j : Int)]; rw [tf_len n j H3.out, ← HR.out]; exact hG.out, hK.out, Sp.new_ok n j H1.out H2.out H3.out⟩
    clear hG hK hge
    go_wp2
    go_ret2
    exact ⟨g, k, rfl, HM.out, by rw [HKE.out]; exact hB.out, by rw [HKE.out]; have := HS1.out; omega, Nat.le_of_eq HKE.out⟩
theorem MLeft.at_ {w w' : World} {g k x : Nat} {s : Sp} (h : MLeft w w' g k s) (hx : x < w.heap.size) (hk : x ≠ k) : w'.heap[x]? = w.heap[x]? := h.2.block x hx hk
end Go.Proofs.YtolaojkcofbkhaaGreat
