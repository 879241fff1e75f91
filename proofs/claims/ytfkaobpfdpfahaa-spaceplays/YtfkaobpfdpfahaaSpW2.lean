/- What Take, Free and New of a map return. -/
import Derived.Test.YtfkaobpfdpfahaaSpW1
namespace Go.Proofs.Ytfkaobpfdpfahaa
open Go.RowKit

set_option maxHeartbeats 2000000 in
theorem take_any (w : World) (g k : Nat) (s : Sp) (h : Mp w g k s) :
    Calls Try.prog 10 #[.pointer (some ⟨g, 0, none⟩)] w fun e w' => e = .returned (.tuple #[.int .i64 (s.takeN : Int), .bool s.any]) ∧ MLeft w w' g k s.take := by
  have hb := sblocks_c w g k s h
  have HM := hid h
  have HN : Hid (s.T.length ≤ 4096) := hid h.ok.n2
  clear h
  generalize hn : s.T.length = n at *
  have HNE := hid hn
  clear hn
  go_enter Try.func10, Try.ntmps10
  go_wp2_with fail
  refine hb.mono ?_
  rintro e w' ⟨rfl, rfl⟩
  clear hb
  go_wp2_with fail
  go_loopw [7] (fun iv wr => ∃ j : Nat, iv = .int .i64 (j : Int) ∧ Hid (j ≤ n) ∧ Hid (∀ i, i < j → s.T[i]? = some true) ∧ w = wr) (fun iv _ => n - (intOf iv).toNat)
  case atStart => exact ⟨0, rfl, hid (Nat.zero_le _), hid (fun i hi => absurd hi (by omega)), rfl⟩
  case round =>
    obtain ⟨j, rfl, hj, hT, rfl⟩ := hrel
    rcases Nat.lt_or_ge j n with hlt | hge
    · have j3 : decide ((j : Int) < (n : Int)) = true := by simpa using hlt
      have j4 : decide (j < n) = true := by simpa using hlt
      have wj : wrap64 ((j : Int) + 1) = ((j + 1 : Nat) : Int) := by have := HN.out; unfold wrap64; omega
      have HLT := hid hlt
      obtain ⟨b, hjb⟩ : ∃ b, s.T[j]? = some b := ⟨s.T[j]'(by have := HNE.out; omega), by simp⟩
      cases b with
      | false =>
        have hc := mark_yes w g k s HM.out j hjb
        have hl : s.least = j := idx_of hT.out hjb
        have ha : s.any = true := by unfold Sp.any; rw [hl]; simpa using Sp.lt_of hjb
        have HE : Hid (s.takeN = j ∧ s.any = true ∧ s.take = s.put j true) := hid ⟨by unfold Sp.takeN; rw [ha, hl]; rfl, ha, by unfold Sp.take; rw [hl]⟩
        clear hl ha hjb
        go_wp2_with fail
        refine hc.mono ?_
        rintro e w' ⟨rfl, hL⟩
        have HL := hid hL
        clear hc hL
        go_wp2
        go_ret2
        exact ⟨by rw [HE.out.1, HE.out.2.1]; rfl, by rw [HE.out.2.2]; exact HL.out⟩
      | true =>
        have hc := mark_no w g k s HM.out j (by rw [Sp.fr_in hjb]; rfl)
        have HT : Hid (∀ i, i < j + 1 → s.T[i]? = some true) := hid (fun i hi => by
          rcases Nat.lt_or_ge i j with h | h
          · exact hT.out i h
          · have : i = j := by omega
            subst this; exact hjb)
        clear hjb hT
        go_wp2_with fail
        refine hc.mono ?_
        rintro e w' ⟨rfl, rfl⟩
        clear hc
        go_wp2
        exact ⟨⟨j + 1, congrArg (Value.int .i64) (by first | exact wj | omega), hid (by have := HLT.out; omega), HT, by first | rfl | trivial⟩, by (try rw [wj]); have := HLT.out; simp [intOf]; omega⟩
    · have j3 : decide ((j : Int) < (n : Int)) = false := by simp; omega
      have j4 : decide (j < n) = false := by simp; omega
      have hl : s.least = s.T.length := idx_none fun i hi => hT.out i (by have := HNE.out; omega)
      have ha : s.any = false := by unfold Sp.any; rw [hl]; simp
      have HE : Hid (s.takeN = 0 ∧ s.any = false ∧ s.take = s) := hid ⟨by unfold Sp.takeN; rw [ha]; rfl, ha, by unfold Sp.take Sp.put; rw [hl, List.set_eq_of_length_le (Nat.le_refl _)]⟩
      clear hl ha hT
      go_wp2
      go_ret2
      exact ⟨by rw [HE.out.1, HE.out.2.1]; rfl, by rw [HE.out.2.2]; exact .same HM.out⟩
theorem take_nil (w : World) :
    Calls Try.prog 10 #[.pointer none] w fun e w' => e = .returned (.tuple #[.int .i64 0, .bool false]) ∧ w = w' := by
  go_enter Try.func10, Try.ntmps10
  go_wp2_with fail
  refine (sblocks_nil w).mono ?_
  rintro e w' ⟨rfl, rfl⟩
  go_wp2_with fail
  go_loopw [7] (fun iv wr => iv = .int .i64 0 ∧ w = wr) (fun _ _ => 0)
  case atStart => exact ⟨rfl, rfl⟩
  case round =>
    obtain ⟨rfl, rfl⟩ := hrel
    go_wp2
    go_ret2
    exact ⟨rfl, rfl⟩
theorem count_take (l : List Bool) (j : Nat) (b : Bool) (h : l[j]? = some b) : (l.take (j + 1)).count false = (l.take j).count false + if b then 0 else 1 := by
  obtain ⟨hj, rfl⟩ := List.getElem?_eq_some_iff.1 h
  rw [List.take_succ_eq_append_getElem hj, List.count_append]
  cases l[j] <;> rfl
set_option maxHeartbeats 2000000 in
theorem free_c (w : World) (g k : Nat) (s : Sp) (h : Mp w g k s) :
    Calls Try.prog 18 #[.pointer (some ⟨g, 0, none⟩)] w fun e w' => e = .returned (.int .i64 (s.free : Int)) ∧ w = w' := by
  have hb := sblocks_c w g k s h
  have HM := hid h
  have HN : Hid (s.T.length ≤ 4096) := hid h.ok.n2
  obtain ⟨h0, -⟩ := h.cells
  clear h
  generalize hn : s.T.length = n at *
  have HNE := hid hn
  clear hn
  go_enter Try.func18, Try.ntmps18
  go_wp2_with fail
  refine hb.mono ?_
  rintro e w' ⟨rfl, rfl⟩
  clear hb
  go_wp2_with fail
  go_loopw [3, 7] (fun nv iv wr => ∃ j q : Nat, nv = .int .i64 (q : Int) ∧ iv = .int .i64 (j : Int) ∧ Hid (j ≤ n) ∧ Hid (q = (s.T.take j).count false ∧ q ≤ j) ∧ w = wr) (fun _ iv _ => n - (intOf iv).toNat)
  case atStart => exact ⟨0, 0, rfl, rfl, hid (Nat.zero_le _), hid ⟨rfl, Nat.le_refl _⟩, rfl⟩
  case round =>
    obtain ⟨j, q, rfl, rfl, hj, hT, rfl⟩ := hrel
    rcases Nat.lt_or_ge j n with hlt | hge
    · have j1 : (0 : Int) ≤ (j : Int) := by omega
      have j2 : (j : Int) < (n : Int) := by omega
      have j3 : decide ((j : Int) < (n : Int)) = true := by simpa using hlt
      have j4 : decide (j < n) = true := by simpa using hlt
      have wj : wrap64 ((j : Int) + 1) = ((j + 1 : Nat) : Int) := by have := HN.out; unfold wrap64; omega
      have wq : wrap64 ((q : Int) + 1) = ((q + 1 : Nat) : Int) := by have := HN.out; have := hT.out.2; clear wj; unfold wrap64; omega
      have HLT := hid hlt
      obtain ⟨b, hjb⟩ : ∃ b, s.T[j]? = some b := ⟨s.T[j]'(by have := HNE.out; omega), by simp⟩
      have hc := HM.out.at_ hjb
      have hq := count_take s.T j b hjb
      cases b with
      | false =>
        have HQ : Hid (q + 1 = (s.T.take (j + 1)).count false ∧ q + 1 ≤ j + 1) := hid ⟨by rw [hq, ← hT.out.1]; rfl, by have := hT.out.2; omega⟩
        clear hq hjb hT
        go_wp2
        exact ⟨⟨j + 1, q + 1, congrArg (Value.int .i64) (by first | exact wq | omega), congrArg (Value.int .i64) (by first | exact wj | omega), hid (by have := HLT.out; omega), HQ, by first | rfl | trivial⟩, by (try rw [wj]); have := HLT.out; simp [intOf]; omega⟩
      | true =>
        have HQ : Hid (q = (s.T.take (j + 1)).count false ∧ q ≤ j + 1) := hid ⟨by rw [hq, ← hT.out.1]; rfl, by have := hT.out.2; omega⟩
        clear hq hjb hT wq
        go_wp2
        exact ⟨⟨j + 1, q, rfl, congrArg (Value.int .i64) (by first | exact wj | omega), hid (by have := HLT.out; omega), HQ, by first | rfl | trivial⟩, by (try rw [wj]); have := HLT.out; simp [intOf]; omega⟩
    · have j3 : decide ((j : Int) < (n : Int)) = false := by simp; omega
      have j4 : decide (j < n) = false := by simp; omega
      have HE : Hid (s.free = q) := hid (by unfold Sp.free; rw [hT.out.1, List.take_of_length_le (by have := HNE.out; omega)])
      clear hT
      go_wp2
      go_ret
      exact ⟨by rw [HE.out]; rfl, rfl⟩
theorem free_nil (w : World) :
    Calls Try.prog 18 #[.pointer none] w fun e w' => e = .returned (.int .i64 0) ∧ w = w' := by
  go_enter Try.func18, Try.ntmps18
  go_wp2_with fail
  refine (sblocks_nil w).mono ?_
  rintro e w' ⟨rfl, rfl⟩
  go_wp2_with fail
  go_loopw [3, 7] (fun nv iv wr => nv = .int .i64 0 ∧ iv = .int .i64 0 ∧ w = wr) (fun _ _ _ => 0)
  case atStart => exact ⟨rfl, rfl, rfl⟩
  case round =>
    obtain ⟨rfl, rfl, rfl⟩ := hrel
    go_wp2
    go_ret
    exact ⟨rfl, rfl⟩

/-- A new map. -/
def tf (n r : Nat) : List Bool := List.replicate r true ++ List.replicate (n - r) false
def Sp.new (n r : Nat) : Sp := ⟨tf n r, r⟩
theorem tf_len (n r : Nat) (h : r ≤ n) : (tf n r).length = n := by simp [tf]; omega
theorem tf_get (n r i : Nat) (h : r ≤ n) (hi : i < n) : (tf n r)[i]? = some (decide (i < r)) := by
  unfold tf
  rw [List.getElem?_append]
  split
  · rename_i hl
    simp at hl
    simp [hl]
  · rename_i hl
    simp at hl
    rw [List.getElem?_replicate, if_pos (by simp; omega)]
    simp; omega
theorem tf_set (n j : Nat) (h : j < n) : (tf n j).set j true = tf n (j + 1) := by
  apply List.ext_getElem?
  intro i
  rw [List.getElem?_set, tf_len n j (by omega)]
  rcases Nat.lt_or_ge i n with hi | hi
  · rw [tf_get n (j + 1) i (by omega) hi, tf_get n j i (by omega) hi]
    split
    · subst_vars
      simp
    · congr 1
      exact decide_eq_decide.2 (by omega)
  · rw [if_neg (by omega), List.getElem?_eq_none (by rw [tf_len n j (by omega)]; exact hi), List.getElem?_eq_none (by rw [tf_len n (j + 1) (by omega)]; exact hi)]
theorem Sp.new_ok (n r : Nat) (h1 : 1 ≤ n) (h2 : n ≤ 4096) (h3 : r ≤ n) : (Sp.new n r).ok :=
  ⟨by show 1 ≤ (tf n r).length; rw [tf_len n r h3]; exact h1, by show (tf n r).length ≤ _; rw [tf_len n r h3]; exact h2, by show r ≤ (tf n r).length; rw [tf_len n r h3]; exact h3, fun i hi => by
    have hi' : i < r := hi
    show (tf n r)[i]? = _
    rw [tf_get n r i h3 (by omega)]
    simpa using hi'⟩
theorem count_rep (m : Nat) : (List.replicate m true).count false = 0 := by
  rw [List.count_replicate]; rfl
theorem Sp.new_free (n r : Nat) : (Sp.new n r).free = n - r := by
  show (tf n r).count false = _
  unfold tf
  rw [List.count_append, count_rep]
  simp
theorem Try.infoBool : (Try.prog.info? 4).map (fun i => (i.zero, i.size, i.bytes)) = some (some (.bool false), 1, 1) := by kernel_rfl
theorem new_wrong (bl rs : Int) (w : World) (h : bl < 1 ∨ 4096 < bl ∨ rs < 0 ∨ bl < rs) :
    Calls Try.prog 8 #[.int .i64 bl, .int .i64 rs] w fun e w' => e = .returned (.tuple #[.pointer none, .int .i64 2]) ∧ w = w' := by
  have hc : decide (bl < 1) = true ∨ (decide (bl < 1) = false ∧ decide (4096 < bl) = true) ∨ (decide (bl < 1) = false ∧ decide (4096 < bl) = false ∧ decide (rs < 0) = true) ∨ (decide (bl < 1) = false ∧ decide (4096 < bl) = false ∧ decide (rs < 0) = false ∧ decide (bl < rs) = true) := by
    simp only [decide_eq_true_eq, decide_eq_false_iff_not]
    omega
  clear h
  rcases hc with e1 | ⟨e1, e2⟩ | ⟨e1, e2, e3⟩ | ⟨e1, e2, e3, e4⟩
  all_goals
    go_enter Try.func8, Try.ntmps8
    go_wp2
    go_ret2
    exact ⟨rfl, rfl⟩
set_option maxHeartbeats 2000000 in
theorem snew_c (bl rs : Int) (n r : Nat) (hbl : bl = (n : Int)) (hrs : rs = (r : Int)) (w : World) (h1 : 1 ≤ n) (h2 : n ≤ 4096) (h3 : r ≤ n) :
    Calls Try.prog 8 #[.int .i64 bl, .int .i64 rs] w fun e w' => ∃ g k, e = .returned (.tuple #[.pointer (some ⟨g, 0, none⟩), .int .i64 0]) ∧ Mp w' g k (Sp.new n r) ∧ Below w.heap.size w w' ∧ w.heap.size ≤ g ∧ w.heap.size ≤ k := by
  have e1 : decide (bl < 1) = false := by simp only [decide_eq_false_iff_not]; omega
  have e2 : decide (4096 < bl) = false := by simp only [decide_eq_false_iff_not]; omega
  have e3 : decide (rs < 0) = false := by simp only [decide_eq_false_iff_not]; omega
  have e4 : decide (bl < rs) = false := by simp only [decide_eq_false_iff_not]; omega
  have HB := hid hbl
  have HR := hid hrs
  have H1 := hid h1
  have H2 := hid h2
  have H3 := hid h3
  clear hbl hrs h1 h2 h3
  go_enter Try.func8, Try.ntmps8
  go_wp2_with (at_make; refine wpList_make_new _ rfl _ _ 48 rfl 4 (.bool false) 1 Try.underlying48 Try.infoBool rfl bl bl n n rfl rfl HB.out HB.out (Nat.le_refl _) (by have := H2.out; omega) (by have := H2.out; omega) ?_)
  intro w1 hz1 hg1 hs1
  have HZ : Hid (Blk w1 w.heap.size 4 (bls (tf n 0)).toArray) := hid (by have := hz1.out; unfold Blk; rw [this]; simp [zeros, bls, tf])
  have B1 : Hid (Below w.heap.size w w1) := hid ((Below.refl _ _).grown hg1 (Nat.le_refl _) (fun k hk => by cases hk))
  have HS1 := hid hs1
  clear hz1 hg1 hs1 e1 e2 e3 e4
  go_wp2_with fail
  have HG : Hid (Blk (w1.alloc (.cells #[.slice (some ⟨w.heap.size, 0, none⟩) n n, .int .i64 rs] 50)) w1.heap.size 50 #[.slice (some ⟨w.heap.size, 0, none⟩) n n, .int .i64 rs]) := hid (Blk.new _ _ _)
  have HK : Hid (Blk (w1.alloc (.cells #[.slice (some ⟨w.heap.size, 0, none⟩) n n, .int .i64 rs] 50)) w.heap.size 4 (bls (tf n 0)).toArray) := hid (HZ.out.keep (Below.heap_alloc w1 _ _ HS1.out))
  have B2 : Hid (Below w.heap.size w (w1.alloc (.cells #[.slice (some ⟨w.heap.size, 0, none⟩) n n, .int .i64 rs] 50))) := hid (B1.out.alloc B1.out.size _)
  generalize w1.alloc (.cells #[.slice (some ⟨w.heap.size, 0, none⟩) n n, .int .i64 rs] 50) = w2 at *
  generalize hg : w1.heap.size = g at *
  generalize hk : w.heap.size = k at *
  have HKE := hid hk
  clear hg hk B1 HZ
  go_loopw [29] (fun iv wr => ∃ j : Nat, iv = .int .i64 (j : Int) ∧ Hid (j ≤ r) ∧ Hid (Blk wr g 50 #[.slice (some ⟨k, 0, none⟩) n n, .int .i64 rs]) ∧ Hid (Blk wr k 4 (bls (tf n j)).toArray) ∧ Hid (Below k w wr)) (fun iv _ => r - (intOf iv).toNat)
  case atStart => exact ⟨0, rfl, hid (Nat.zero_le _), HG, HK, B2⟩
  case round =>
    obtain ⟨j, rfl, hj, hG, hK, hB⟩ := hrel
    clear HG HK B2
    rcases Nat.lt_or_ge j r with hlt | hge
    · have hjn : j < n := by have := H3.out; omega
      have j1 : (0 : Int) ≤ (j : Int) := by omega
      have j2 : (j : Int) < (n : Int) := by omega
      have j3 : decide ((j : Int) < rs) = true := by rw [HR.out]; simpa using hlt
      have wj : wrap64 ((j : Int) + 1) = ((j + 1 : Nat) : Int) := by have := H2.out; unfold wrap64; omega
      have c0 : wr.cell? ⟨g, 0, none⟩ = some (.slice (some ⟨k, 0, none⟩) n n) := by have := hG.out.cell 0; simpa using this
      have c1 : wr.cell? ⟨k, j, none⟩ = some (.bool false) := by
        rw [hK.out.cell j]
        have := tf_get n j j (by omega) hjn
        simp [bls, this]
      have f1 := hK.out.frozen j
      have HS1' := HS1.out
      have HG2 : Hid (Blk (wr.setCell ⟨k, j, none⟩ (.bool true)) g 50 #[.slice (some ⟨k, 0, none⟩) n n, .int .i64 rs]) := hid (hG.out.keep ((grown_setCell wr k j _).block g hG.out.lt (fun e => by injection e with e; omega)))
      have HK2 : Hid (Blk (wr.setCell ⟨k, j, none⟩ (.bool true)) k 4 (bls (tf n (j + 1))).toArray) := hid (by
        have := hK.out.store j (.bool true)
        have e : (bls (tf n j)).toArray.setIfInBounds j (.bool true) = (bls (tf n (j + 1))).toArray := by
          apply Array.toList_inj.1
          rw [← tf_set n j hjn]
          simp [bls, List.map_set]
        rwa [e] at this)
      have HB2 : Hid (Below k w (wr.setCell ⟨k, j, none⟩ (.bool true))) := hid (hB.out.grown (grown_setCell wr k j _) (by have := hB.out.size; have := HKE.out; omega) (fun x hx => by injection hx with hx; omega))
      have HLT := hid hlt
      clear hG hK hB hjn hlt HS1'
      go_wp2
      exact ⟨⟨j + 1, congrArg (Value.int .i64) (by first | exact wj | omega), hid (by have := HLT.out; omega), HG2, HK2, HB2⟩, by (try rw [wj]); have := HLT.out; simp [intOf]; omega⟩
    · have hjr : j = r := by have := hj.out; omega
      subst hjr
      have j3 : decide ((j : Int) < rs) = false := by rw [HR.out]; simp
      have HM : Hid (Mp wr g k (Sp.new n j)) := hid ⟨by show Blk wr g _ #[.slice _ (tf n j).length (tf n j).length, .int .i64 (j : Int)]; rw [tf_len n j H3.out, ← HR.out]; exact hG.out, hK.out, Sp.new_ok n j H1.out H2.out H3.out⟩
      clear hG hK hge
      go_wp2
      go_ret2
      exact ⟨g, k, rfl, HM.out, by rw [HKE.out]; exact hB.out, by rw [HKE.out]; have := HS1.out; omega, Nat.le_of_eq HKE.out⟩
end Go.Proofs.Ytfkaobpfdpfahaa
