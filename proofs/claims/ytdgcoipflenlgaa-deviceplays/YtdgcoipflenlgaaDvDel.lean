/- What slices.DeleteFunc does to the writes that wait, with the function that Overwrite hands it: the writes of one block are gone. -/
import Derived.Test.YtdgcoipflenlgaaDvFirst
namespace Go.Proofs.Ytdgcoipflenlgaa
open Go.RowKit

/-- A write's cells. -/
abbrev wc (x : Nat) (b : List UInt8) : List Value := Value.int .i64 (x : Int) :: bs b
theorem wc_len {x : Nat} {b : List UInt8} (h : b.length = 16) : (wc x b).length = 17 := by rw [List.length_cons, bs_len, h]
theorem wc_one (x : Nat) (b : List UInt8) : ∀ u ∈ wc x b, u.oneCell' = true := fun u hu => by
  rcases List.mem_cons.1 hu with rfl | hu
  · rfl
  · exact bs_one _ u hu
theorem wcs_cons (y : Nat × List UInt8) (r : Wr) : wcs (y :: r) = wc y.1 y.2 ++ wcs r := rfl

theorem block_lt0 {w : World} {x : Addr} {v : Value} (h : w.cell? x = some v) : x.block < w.heap.size := World.block_lt_of_cell? w _ h
theorem clo_c (x : Nat) (b : List UInt8) (hb : b.length = 16) (i vi : Nat) (w : World) (hvi : w.cell? ⟨vi, 0, none⟩ = some (.int .i64 (i : Int))) :
    Calls Try.prog 34 #[.agg (wc x b).toArray, .pointer (some ⟨vi, 0, none⟩)] w fun e w' => e = .returned (.bool (decide (x = i))) ∧ Below w.heap.size w w' := by
  have HB : Hid (Below w.heap.size w (w.alloc (.cells (wc x b).toArray 65))) := hid ((Below.refl _ _).alloc (Nat.le_refl _) _)
  have c0 : (w.alloc (.cells (wc x b).toArray 65)).cell? ⟨w.heap.size, 0, none⟩ = some (.int .i64 (x : Int)) := by
    rw [(Blk.new w 65 (wc x b).toArray).cell]
    rfl
  have c1 : (w.alloc (.cells (wc x b).toArray 65)).cell? ⟨vi, 0, none⟩ = some (.int .i64 (i : Int)) := by
    rw [World.cell?_of_block (HB.out.block vi (block_lt0 hvi))]
    exact hvi
  have hsz : (wc x b).toArray.size = 17 := by rw [List.size_toArray, wc_len hb]
  have e1 : ((x : Int) == (i : Int)) = decide (x = i) := by
    by_cases h : x = i
    · subst h; simp
    · have : ¬ (x : Int) = (i : Int) := by omega
      simp [h, this]
  clear hvi hb
  go_enter Try.func34, Try.ntmps34
  generalize (wc x b).toArray = E at *
  go_wp2_with fail
  go_ret
  exact ⟨rfl, HB.out⟩
--CUT

theorem wcs_split (V : Wr) (p : Nat) (hp : p < V.length) : wcs V = wcs (V.take p) ++ (wc V[p].1 V[p].2 ++ wcs (V.drop (p + 1))) := by
  conv => lhs; rw [show V = V.take p ++ (V[p] :: V.drop (p + 1)) by simp]
  rw [wcs_app, wcs_cons]
theorem wcs_set (V : Wr) (p : Nat) (hp : p < V.length) (x : Nat) (b : List UInt8) : wcs (V.set p (x, b)) = wcs (V.take p) ++ (wc x b ++ wcs (V.drop (p + 1))) := by
  rw [List.set_eq_take_append_cons_drop, if_pos hp, wcs_app, wcs_cons]
theorem drop3 (a b c d : List Value) (n m : Nat) (ha : a.length = n) (hb : b.length = m) : (a ++ (b ++ c) ++ d).drop (n + m) = c ++ d := by
  rw [show a ++ (b ++ c) ++ d = (a ++ b) ++ (c ++ d) by simp]
  exact List.drop_left' (by rw [List.length_append, ha, hb])
section
variable {w : World} {bw c : Nat} {V : Wr}
theorem own_parts (h : w.ownsRow 0 65 17 (.slice (some ⟨bw, 0, none⟩) V.length c) V.length (wcs V)) : ∃ cur : Array Value, Blk w bw 65 cur ∧ V.length ≤ c ∧ c ≤ maxLen ∧ cur.size = c * 17 ∧ cur.toList.take (V.length * 17) = wcs V := by
  rcases h.2 with ⟨hv, _⟩ | ⟨g, cap, cur, hv, _, hg, hnc, hcm, hcs, ht⟩
  · cases hv
  · injection hv with hA _ hcap
    injection hA with hA
    injection hA with hA
    subst hA hcap
    exact ⟨cur, hg, hnc, hcm, hcs, ht⟩
theorem own_there (h : w.ownsRow 0 65 17 (.slice (some ⟨bw, 0, none⟩) V.length c) V.length (wcs V)) {o k : Nat} (hk : o + k ≤ V.length * 17) : w.there bw o k := by
  obtain ⟨cur, hb, hnc, _, hcs, _⟩ := own_parts h
  intro j hj
  have h17 : V.length * 17 ≤ c * 17 := Nat.mul_le_mul_right _ hnc
  refine ⟨?_, hb.frozen _⟩
  rw [hb.cell, Array.getElem?_eq_getElem (by omega)]
  rfl
theorem own_elem (h : w.ownsRow 0 65 17 (.slice (some ⟨bw, 0, none⟩) V.length c) V.length (wcs V)) (hV : ∀ x ∈ V, x.2.length = 16) {j : Nat} (hj : j < V.length) : w.rangeAt bw (j * 17) (wc V[j].1 V[j].2) := by
  obtain ⟨b, hA, _, hr⟩ := own_range h (by omega)
  injection hA with hA
  injection hA with hA
  subst hA
  intro t u hu
  have := hr (j * 17 + t) u (wcs_at V hV hj t u hu)
  rwa [Nat.zero_add] at this
theorem own_set (h : w.ownsRow 0 65 17 (.slice (some ⟨bw, 0, none⟩) V.length c) V.length (wcs V)) (hV : ∀ x ∈ V, x.2.length = 16) {p : Nat} (hp : p < V.length) (x : Nat) (b : List UInt8) (hb : b.length = 16) :
    (w.setCells bw (p * 17) (wc x b)).ownsRow 0 65 17 (.slice (some ⟨bw, 0, none⟩) V.length c) V.length (wcs (V.set p (x, b))) := by
  obtain ⟨cur, hblk, hnc, hcm, hcs, ht⟩ := own_parts h
  have h17 : V.length * 17 ≤ c * 17 := Nat.mul_le_mul_right _ hnc
  have hp17 : (p + 1) * 17 ≤ V.length * 17 := Nat.mul_le_mul_right _ hp
  have hwl := wc_len (x := x) hb
  obtain ⟨cs', h1, h2⟩ := Blk.setCells (wc x b) (p * 17) w cur hblk (by rw [hwl]; omega)
  have hVp := wcs_split V p hp
  have hlp : (wcs (V.take p)).length = p * 17 := by rw [wcs_len _ fun x hx => hV x (List.mem_of_mem_take hx)]; simp; omega
  have hld : (wcs (V.drop (p + 1))).length = (V.length - (p + 1)) * 17 := by rw [wcs_len _ fun x hx => hV x (List.mem_of_mem_drop hx)]; simp
  have hle : (wc V[p].1 V[p].2).length = 17 := wc_len (hV _ (List.getElem_mem hp))
  have hcur : cur.toList = wcs V ++ cur.toList.drop (V.length * 17) := by
    conv => lhs; rw [← List.take_append_drop (V.length * 17) cur.toList]
    rw [ht]
  have e1 : cur.toList.take (p * 17) = wcs (V.take p) := by
    rw [hcur, hVp, List.append_assoc, List.take_append_of_le_length (by omega), List.take_of_length_le (by omega)]
  have e2 : cur.toList.drop (p * 17 + (wc x b).length) = wcs (V.drop (p + 1)) ++ cur.toList.drop (V.length * 17) := by
    rw [hwl]
    conv => lhs; rw [hcur, hVp]
    exact drop3 _ _ _ _ _ _ hlp hle
  have hset := wcs_set V p hp x b
  have hlset : (wcs (V.set p (x, b))).length = V.length * 17 := by
    rw [wcs_len _ (fun y hy => by
      rcases List.mem_or_eq_of_mem_set hy with hy | hy
      · exact hV y hy
      · rw [hy]; exact hb)]
    simp
  refine ⟨by rw [hlset], .inr ⟨bw, c, cs', rfl, Nat.zero_le _, h1, hnc, hcm, ?_, ?_⟩⟩
  · have : cs'.toList.length = cur.toList.length := by
      rw [h2, e1, e2, List.length_append, List.length_append, List.length_append, hlp, hwl, hld, List.length_drop]
      have : cur.toList.length = c * 17 := by simpa using hcs
      omega
    simpa [hcs] using this
  · rw [h2, e1, e2, hset]
    rw [show wcs (V.take p) ++ wc x b ++ (wcs (V.drop (p + 1)) ++ cur.toList.drop (V.length * 17)) = (wcs (V.take p) ++ (wc x b ++ wcs (V.drop (p + 1)))) ++ cur.toList.drop (V.length * 17) by simp]
    rw [← hset, List.take_append_of_le_length (by omega), List.take_of_length_le (by omega)]
theorem own_cut (h : w.ownsRow 0 65 17 (.slice (some ⟨bw, 0, none⟩) V.length c) V.length (wcs V)) (hV : ∀ x ∈ V, x.2.length = 16) {p : Nat} (hp : p ≤ V.length) (Z : List Value) (hZ : p * 17 + Z.length = V.length * 17) :
    (w.setCells bw (p * 17) Z).ownsRow 0 65 17 (.slice (some ⟨bw, 0, none⟩) p c) p (wcs (V.take p)) := by
  obtain ⟨cur, hblk, hnc, hcm, hcs, ht⟩ := own_parts h
  have h17 : V.length * 17 ≤ c * 17 := Nat.mul_le_mul_right _ hnc
  obtain ⟨cs', h1, h2⟩ := Blk.setCells Z (p * 17) w cur hblk (by omega)
  have hlp : (wcs (V.take p)).length = p * 17 := by rw [wcs_len _ fun x hx => hV x (List.mem_of_mem_take hx)]; simp; omega
  have hlc : cur.toList.length = c * 17 := by simpa using hcs
  have e1 : cur.toList.take (p * 17) = wcs (V.take p) := by
    have h3 : (cur.toList.take (V.length * 17)).take (p * 17) = cur.toList.take (p * 17) := by rw [List.take_take, Nat.min_eq_left (Nat.mul_le_mul_right _ hp)]
    rw [← h3, ht]
    conv => lhs; rw [← List.take_append_drop p V, wcs_app]
    rw [List.take_append_of_le_length (by omega), List.take_of_length_le (by omega)]
  refine ⟨hlp, .inr ⟨bw, c, cs', rfl, Nat.zero_le _, h1, by omega, hcm, ?_, ?_⟩⟩
  · have : cs'.toList.length = cur.toList.length := by
      rw [h2, List.length_append, List.length_append, List.length_take, List.length_drop]
      omega
    simpa [hcs] using this
  · rw [h2, List.append_assoc, List.take_append_of_le_length (by simp; omega), List.take_take, Nat.min_self]
    exact e1
end
theorem run_clear_w (w : World) (ty : TypeId) (b o n c : Nat) (hn : 0 < n) (ht : w.there b o (n * 17)) : ∃ Z : List Value, Z.length = n * 17 ∧
    (Builtin.clear_ #[58] ty #[.slice (some ⟨b, o, none⟩) n c]).run Try.prog w = .ok (.tuple #[]) (w.setCells b o Z) := by
  refine ⟨(Builtin.zeroCells (Value.agg #[.int .i64 0, .int .u8 0, .int .u8 0, .int .u8 0, .int .u8 0, .int .u8 0, .int .u8 0, .int .u8 0, .int .u8 0, .int .u8 0, .int .u8 0, .int .u8 0, .int .u8 0, .int .u8 0, .int .u8 0, .int .u8 0, .int .u8 0]).cells n).toList, by simp [Builtin.zeroCells, Value.cells], ?_⟩
  have hlen : ((Builtin.zeroCells (Value.agg #[.int .i64 0, .int .u8 0, .int .u8 0, .int .u8 0, .int .u8 0, .int .u8 0, .int .u8 0, .int .u8 0, .int .u8 0, .int .u8 0, .int .u8 0, .int .u8 0, .int .u8 0, .int .u8 0, .int .u8 0, .int .u8 0, .int .u8 0]).cells n).toList).length = n * 17 := by simp [Builtin.zeroCells, Value.cells]
  have hst := run_storeCells_cells (P := Try.prog) b o (Builtin.zeroCells (Value.agg #[.int .i64 0, .int .u8 0, .int .u8 0, .int .u8 0, .int .u8 0, .int .u8 0, .int .u8 0, .int .u8 0, .int .u8 0, .int .u8 0, .int .u8 0, .int .u8 0, .int .u8 0, .int .u8 0, .int .u8 0, .int .u8 0, .int .u8 0]).cells n).toList 0 w (by rw [hlen]; simpa using fun j hj => (ht j hj).1) (by rw [hlen]; simpa using fun j hj => (ht j hj).2) (fun v hv => by
    simp only [Builtin.zeroCells, Array.toList_map, List.mem_map] at hv
    obtain ⟨k, _, rfl⟩ := hv
    have hk : k % 17 < 17 := Nat.mod_lt _ (by decide)
    show ((#[.int .i64 0, .int .u8 0, .int .u8 0, .int .u8 0, .int .u8 0, .int .u8 0, .int .u8 0, .int .u8 0, .int .u8 0, .int .u8 0, .int .u8 0, .int .u8 0, .int .u8 0, .int .u8 0, .int .u8 0, .int .u8 0, .int .u8 0] : Array Value)[k % 17]!).oneCell' = true
    generalize k % 17 = q at hk
    rcases q with _ | _ | _ | _ | _ | _ | _ | _ | _ | _ | _ | _ | _ | _ | _ | _ | _ | q
    all_goals first | rfl | omega)
  simp only [Nat.add_zero] at hst
  obtain ⟨m, rfl⟩ : ∃ m, n = m + 1 := ⟨n - 1, by omega⟩
  unfold Builtin.clear_
  simp [run_underlying Try.underlying58, hst]

set_option maxRecDepth 20000 in
set_option maxHeartbeats 2000000 in
theorem index_c (w : World) (A : Option Addr) (c : Nat) (W : Wr) (hown : w.ownsRow 0 65 17 (.slice A W.length c) W.length (wcs W)) (hW : ∀ x ∈ W, x.2.length = 16) (hl : W.length ≤ 1000000) (i vi : Nat) (hvi : w.cell? ⟨vi, 0, none⟩ = some (.int .i64 (i : Int))) :
    Calls Try.prog 36 #[.slice A W.length c, .func (.func 34) #[] #[.pointer (some ⟨vi, 0, none⟩)]] w fun e w' => Below w.heap.size w w' ∧
      ((∃ p, ∃ hp : p < W.length, W[p].1 = i ∧ (∀ t, ∀ ht : t < W.length, t < p → W[t].1 ≠ i) ∧ e = .returned (.int .i64 (p : Int))) ∨ ((∀ x ∈ W, x.1 ≠ i) ∧ e = .returned (.int .i64 (-1)))) := by
  have HO := hid hown
  have HW := hid hW
  have HL := hid hl
  have HV := hid hvi
  clear hown hW hl hvi
  go_enter Try.func36, Try.ntmps36
  go_wp2_with fail
  go_loopw [8] (fun iv wr => ∃ j : Nat, iv = .int .i64 (j : Int) ∧ Hid (j ≤ W.length) ∧ Hid (∀ t, ∀ ht : t < W.length, t < j → W[t].1 ≠ i) ∧ Hid (Below w.heap.size w wr)) (fun iv _ => W.length - (intOf iv).toNat)
  case atStart => exact ⟨0, rfl, hid (Nat.zero_le _), hid (fun t _ h => absurd h (by omega)), hid (Below.refl _ _)⟩
  case round =>
    obtain ⟨j, rfl, hj, hN, hB⟩ := hrel
    rcases Nat.lt_or_ge j W.length with hlt | hge
    · obtain ⟨b, hA, hbl, -⟩ := own_range HO.out (by omega)
      subst hA
      have hR0 := own_elem HO.out HW.out hlt
      have hR := rangeAt_keep hR0 (hB.out.block b hbl)
      have hx := HW.out W[j] (List.getElem_mem hlt)
      have hvi : wr.cell? ⟨vi, 0, none⟩ = some (.int .i64 (i : Int)) := (World.cell?_of_block (hB.out.block vi (block_lt0 HV.out))).trans HV.out
      have HCL := hid (clo_c W[j].1 W[j].2 hx i vi wr hvi)
      have HJ : Hid (W[j].1 = W[j].1) := hid rfl
      have HR := hid hR
      obtain ⟨d, hd1, hd2⟩ := Try.undW2
      have HD := hid (And.intro hd1 hd2)
      have HIN : Hid ((Try.prog.info? 65).map (·.size) = some (wc W[j].1 W[j].2).length) := hid (by rw [wc_len hx]; exact Try.infoW1)
      have HNX : Hid (W[j].1 ≠ i → ∀ t, ∀ ht : t < W.length, t < j + 1 → W[t].1 ≠ i) := hid (fun hne t ht h => by
        rcases Nat.lt_or_ge t j with h1 | h1
        · exact hN.out t ht h1
        · have : t = j := by omega
          subst this; exact hne)
      have HXJ : Hid (∀ k : Nat, W[j].1 = k → W[j].1 = k) := hid (fun _ h => h)
      have HPQ : Hid (∃ q : Nat, q = W[j].1) := hid ⟨_, rfl⟩
      obtain ⟨x, hxq⟩ := HPQ.out
      rw [← hxq] at HCL HR HIN HNX
      have HXQ := hid hxq
      generalize W[j].2 = bb at *
      generalize hE : wc x bb = E at *
      have j1 : (0 : Int) ≤ (j : Int) := by omega
      have j2 : (j : Int) < (W.length : Int) := by omega
      have j3 : decide ((j : Int) < (W.length : Int)) = true := by simpa using hlt
      have j4 : decide (j < W.length) = true := by simpa using hlt
      have wj : wrap64 ((j : Int) + 1) = ((j + 1 : Nat) : Int) := by have := HL.out; unfold wrap64; omega
      clear hR0 hR hx hvi hd1 hd2 HJ hxq HXJ HPQ hE
      as_aux_lemma =>
      go_wp2_with (refine wpList_load_mid rfl 65 _ rfl b (j * 17) rfl E d HR.out HD.out.1 HD.out.2 HIN.out ?_)
      refine HCL.out.mono ?_
      rintro e w2 ⟨rfl, hb2⟩
      have HB2 : Hid (Below w.heap.size w w2) := hid (hB.out.trans (hb2.mono hB.out.size))
      clear hb2 HCL HR HIN
      by_cases hxi : x = i
      · have e1 : decide (x = i) = true := by simpa using hxi
        rw [e1]
        have HXI := hid hxi
        clear hxi e1
        go_wp2
        go_ret
        exact ⟨HB2.out, .inl ⟨j, hlt, by rw [← HXQ.out]; exact HXI.out, hN.out, rfl⟩⟩
      · have e1 : decide (x = i) = false := by simpa using hxi
        rw [e1]
        have HXI := hid hxi
        clear hxi e1
        go_wp2
        exact ⟨⟨j + 1, congrArg (Value.int .i64) wj, hid hlt, hid (HNX.out HXI.out), HB2⟩, by rw [wj]; simp [intOf]; omega⟩
    · have j3 : decide ((j : Int) < (W.length : Int)) = false := by simp; omega
      have j4 : decide (j < W.length) = false := by simp; omega
      go_wp2
      go_ret
      refine ⟨hB.out, .inr ⟨fun x hx => ?_, rfl⟩⟩
      obtain ⟨t, ht, e⟩ := List.getElem_of_mem hx
      rw [← e]
      exact hN.out t ht (by omega)
end Go.Proofs.Ytdgcoipflenlgaa
