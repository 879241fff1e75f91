import Derived.Test.YtolaojkcofbkhaaGreatDvC
namespace Go.Proofs.YtolaojkcofbkhaaGreat
set_option maxRecDepth 100000
set_option maxHeartbeats 4000000
open Go.RowKit
abbrev wc (x : Nat) (b : List UInt8) : List Value := Value.int .i64 (x : Int) :: bs b
theorem wc_len {x : Nat} {b : List UInt8} (h : b.length = 16) : (wc x b).length = 17 := by rw [List.length_cons, bs_len, h]
theorem wc_one (x : Nat) (b : List UInt8) : ∀ u ∈ wc x b, u.oneCell' = true := fun u hu => by
 rcases List.mem_cons.1 hu with rfl | hu
 · rfl
 · exact bs_one _ u hu
theorem wcs_cons (y : Nat × List UInt8) (r : Wr) : wcs (y :: r) = wc y.1 y.2 ++ wcs r := rfl
theorem block_lt0 {w : World} {x : Addr} {v : Value} (h : w.cell? x = some v) : x.block < w.heap.size := World.block_lt_of_cell? w _ h
theorem clo_c (x : Nat) (b : List UInt8) (hb : b.length = 16) (i vi : Nat) (w : World) (hvi : w.cell? ⟨vi, 0, none⟩ = some (.int .i64 (i : Int))) :
 Calls Tryz.prog 63 #[.agg (wc x b).toArray, .pointer (some ⟨vi, 0, none⟩)] w fun e w' => e = .returned (.bool (decide (x = i))) ∧ Below w.heap.size w w' := by
 have HB : Hid (Below w.heap.size w (w.alloc (.cells (wc x b).toArray 143))) := hid ((Below.refl _ _).alloc (nl _) _)
 have c0 : (w.alloc (.cells (wc x b).toArray 143)).cell? ⟨w.heap.size, 0, none⟩ = some (.int .i64 (x : Int)) := by
  rw [(Blk.new w 143 (wc x b).toArray).cell]
  rfl
 have c1 : (w.alloc (.cells (wc x b).toArray 143)).cell? ⟨vi, 0, none⟩ = some (.int .i64 (i : Int)) := by
  rw [World.cell?_of_block (HB.out.block vi (block_lt0 hvi))]
  exact hvi
 have hsz : (wc x b).toArray.size = 17 := by rw [List.size_toArray, wc_len hb]
 have e1 : ((x : Int) == (i : Int)) = decide (x = i) := by
  by_cases h : x = i
  · subst h; simp
  · have : ¬ (x : Int) = (i : Int) := by omega
    simp [h, this]
 clear hvi hb
 go_enter Tryz.func63, Tryz.ntmps63
 generalize (wc x b).toArray = E at *
 go_wp2_with fail
 go_ret
 exact ⟨rfl, HB.out⟩
--CUT
theorem wcs_split (V : Wr) (p : Nat) (hp : p < V.length) : wcs V = wcs (V.take p) ++ (wc V[p].1 V[p].2 ++ wcs (V.drop (p + 1))) := by
 conv => lhs; rw [show V = V.take p ++ (V[p] :: V.drop (p + 1)) by simp]
 rw [wcs_app, wcs_cons]
theorem wcs_set (V : Wr) (p : Nat) (hp : p < V.length) (x : Nat) (b : List UInt8) : wcs (V.set p (x, b)) = wcs (V.take p) ++ (wc x b ++ wcs (V.drop (p + 1))) := by
 rw [List.set_eq_take_append_cons_drop, if_pos hp, wcs_app, wcs_cons]
theorem drop3 (a b c d : List Value) (n m : Nat) (ha : a.length = n) (hb : b.length = m) : (a ++ (b ++ c) ++ d).drop (n + m) = c ++ d := by
 rw [show a ++ (b ++ c) ++ d = (a ++ b) ++ (c ++ d) by simp]
 exact List.drop_left' (by rw [List.length_append, ha, hb])
section
variable {w : World} {bw c : Nat} {V : Wr}
theorem own_parts (h : w.ownsRow 0 143 17 (.slice (some ⟨bw, 0, none⟩) V.length c) V.length (wcs V)) : ∃ cur : Array Value, Blk w bw 143 cur ∧ V.length ≤ c ∧ c ≤ maxLen ∧ cur.size = c * 17 ∧ cur.toList.take (V.length * 17) = wcs V := by
 rcases h.2 with ⟨hv, _⟩ | ⟨g, cap, cur, hv, _, hg, hnc, hcm, hcs, ht⟩
 · cases hv
 · injection hv with hA _ hcap
   injection hA with hA
   injection hA with hA
   subst hA hcap
   exact ⟨cur, hg, hnc, hcm, hcs, ht⟩
theorem own_there (h : w.ownsRow 0 143 17 (.slice (some ⟨bw, 0, none⟩) V.length c) V.length (wcs V)) {o k : Nat} (hk : o + k ≤ V.length * 17) : w.there bw o k := by
 obtain ⟨cur, hb, hnc, _, hcs, _⟩ := own_parts h
 intro j hj
 have h17 : V.length * 17 ≤ c * 17 := Nat.mul_le_mul_right _ hnc
 refine ⟨?_, hb.frozen _⟩
 rw [hb.cell, Array.getElem?_eq_getElem (by omega)]
 rfl
theorem own_elem (h : w.ownsRow 0 143 17 (.slice (some ⟨bw, 0, none⟩) V.length c) V.length (wcs V)) (hV : ∀ x ∈ V, x.2.length = 16) {j : Nat} (hj : j < V.length) : w.rangeAt bw (j * 17) (wc V[j].1 V[j].2) := by
 obtain ⟨b, hA, _, hr⟩ := own_range h (by omega)
 injection hA with hA
 injection hA with hA
 subst hA
 intro t u hu
 have := hr (j * 17 + t) u (wcs_at V hV hj t u hu)
 rwa [Nat.zero_add] at this
theorem own_set (h : w.ownsRow 0 143 17 (.slice (some ⟨bw, 0, none⟩) V.length c) V.length (wcs V)) (hV : ∀ x ∈ V, x.2.length = 16) {p : Nat} (hp : p < V.length) (x : Nat) (b : List UInt8) (hb : b.length = 16) :
 (w.setCells bw (p * 17) (wc x b)).ownsRow 0 143 17 (.slice (some ⟨bw, 0, none⟩) V.length c) V.length (wcs (V.set p (x, b))) := by
 obtain ⟨cur, hblk, hnc, hcm, hcs, ht⟩ := own_parts h
 have h17 : V.length * 17 ≤ c * 17 := Nat.mul_le_mul_right _ hnc
 have hp17 : (p + 1) * 17 ≤ V.length * 17 := Nat.mul_le_mul_right _ hp
 have hwl := wc_len (x := x) hb
 obtain ⟨cs', h1, h2⟩ := Blk.setCells (wc x b) (p * 17) w cur hblk (by rw [hwl]; omega)
 have hVp := wcs_split V p hp
 have hlp : (wcs (V.take p)).length = p * 17 := by rw [wcs_len _ fun x hx => hV x (List.mem_of_mem_take hx)]; simp; omega
 have hld : (wcs (V.drop (p + 1))).length = (V.length - (p + 1)) * 17 := by rw [wcs_len _ fun x hx => hV x (List.mem_of_mem_drop hx)]; simp
 have hle : (wc V[p].1 V[p].2).length = 17 := wc_len (hV _ (List.getElem_mem hp))
 have hcur : cur.toList = wcs V ++ cur.toList.drop (V.length * 17) := by
  conv => lhs; rw [← List.take_append_drop (V.length * 17) cur.toList]
  rw [ht]
 have e1 : cur.toList.take (p * 17) = wcs (V.take p) := by
  rw [hcur, hVp, List.append_assoc, List.take_append_of_le_length (by omega), List.take_of_length_le (by omega)]
 have e2 : cur.toList.drop (p * 17 + (wc x b).length) = wcs (V.drop (p + 1)) ++ cur.toList.drop (V.length * 17) := by
  rw [hwl]
  conv => lhs; rw [hcur, hVp]
  exact drop3 _ _ _ _ _ _ hlp hle
 have hset := wcs_set V p hp x b
 have hlset : (wcs (V.set p (x, b))).length = V.length * 17 := by
  rw [wcs_len _ (fun y hy => by
   rcases List.mem_or_eq_of_mem_set hy with hy | hy
   · exact hV y hy
   · rw [hy]; exact hb)]
  simp
 refine ⟨by rw [hlset], .inr ⟨bw, c, cs', rfl, Nat.zero_le _, h1, hnc, hcm, ?_, ?_⟩⟩
 · have : cs'.toList.length = cur.toList.length := by
    rw [h2, e1, e2, List.length_append, List.length_append, List.length_append, hlp, hwl, hld, List.length_drop]
    have : cur.toList.length = c * 17 := by simpa using hcs
    omega
   simpa [hcs] using this
 · rw [h2, e1, e2, hset]
   rw [show wcs (V.take p) ++ wc x b ++ (wcs (V.drop (p + 1)) ++ cur.toList.drop (V.length * 17)) = (wcs (V.take p) ++ (wc x b ++ wcs (V.drop (p + 1)))) ++ cur.toList.drop (V.length * 17) by simp]
   rw [← hset, List.take_append_of_le_length (by omega), List.take_of_length_le (by omega)]
theorem own_cut (h : w.ownsRow 0 143 17 (.slice (some ⟨bw, 0, none⟩) V.length c) V.length (wcs V)) (hV : ∀ x ∈ V, x.2.length = 16) {p : Nat} (hp : p ≤ V.length) (Z : List Value) (hZ : p * 17 + Z.length = V.length * 17) :
 (w.setCells bw (p * 17) Z).ownsRow 0 143 17 (.slice (some ⟨bw, 0, none⟩) p c) p (wcs (V.take p)) := by
 obtain ⟨cur, hblk, hnc, hcm, hcs, ht⟩ := own_parts h
 have h17 : V.length * 17 ≤ c * 17 := Nat.mul_le_mul_right _ hnc
 obtain ⟨cs', h1, h2⟩ := Blk.setCells Z (p * 17) w cur hblk (by omega)
 have hlp : (wcs (V.take p)).length = p * 17 := by rw [wcs_len _ fun x hx => hV x (List.mem_of_mem_take hx)]; simp; omega
 have hlc : cur.toList.length = c * 17 := by simpa using hcs
 have e1 : cur.toList.take (p * 17) = wcs (V.take p) := by
  have h3 : (cur.toList.take (V.length * 17)).take (p * 17) = cur.toList.take (p * 17) := by rw [List.take_take, Nat.min_eq_left (Nat.mul_le_mul_right _ hp)]
  rw [← h3, ht]
  conv => lhs; rw [← List.take_append_drop p V, wcs_app]
  rw [List.take_append_of_le_length (by omega), List.take_of_length_le (by omega)]
 refine ⟨hlp, .inr ⟨bw, c, cs', rfl, Nat.zero_le _, h1, by omega, hcm, ?_, ?_⟩⟩
 · have : cs'.toList.length = cur.toList.length := by
    rw [h2, List.length_append, List.length_append, List.length_take, List.length_drop]
    omega
   simpa [hcs] using this
 · rw [h2, List.append_assoc, List.take_append_of_le_length (by simp; omega), List.take_take, Nat.min_self]
   exact e1
end
theorem run_clear_w (w : World) (ty : TypeId) (b o n c : Nat) (hn : 0 < n) (ht : w.there b o (n * 17)) : ∃ Z : List Value, Z.length = n * 17 ∧
 (Builtin.clear_ #[106] ty #[.slice (some ⟨b, o, none⟩) n c]).run Tryz.prog w = .ok (.tuple #[]) (w.setCells b o Z) := by
 refine ⟨(Builtin.zeroCells (Value.agg #[.int .i64 0, .int .u8 0, .int .u8 0, .int .u8 0, .int .u8 0, .int .u8 0, .int .u8 0, .int .u8 0, .int .u8 0, .int .u8 0, .int .u8 0, .int .u8 0, .int .u8 0, .int .u8 0, .int .u8 0, .int .u8 0, .int .u8 0]).cells n).toList, by simp [Builtin.zeroCells, Value.cells], ?_⟩
 have hlen : ((Builtin.zeroCells (Value.agg #[.int .i64 0, .int .u8 0, .int .u8 0, .int .u8 0, .int .u8 0, .int .u8 0, .int .u8 0, .int .u8 0, .int .u8 0, .int .u8 0, .int .u8 0, .int .u8 0, .int .u8 0, .int .u8 0, .int .u8 0, .int .u8 0, .int .u8 0]).cells n).toList).length = n * 17 := by simp [Builtin.zeroCells, Value.cells]
 have hst := run_storeCells_cells (P := Tryz.prog) b o (Builtin.zeroCells (Value.agg #[.int .i64 0, .int .u8 0, .int .u8 0, .int .u8 0, .int .u8 0, .int .u8 0, .int .u8 0, .int .u8 0, .int .u8 0, .int .u8 0, .int .u8 0, .int .u8 0, .int .u8 0, .int .u8 0, .int .u8 0, .int .u8 0, .int .u8 0]).cells n).toList 0 w (by rw [hlen]; simpa using fun j hj => (ht j hj).1) (by rw [hlen]; simpa using fun j hj => (ht j hj).2) (fun v hv => by
  simp only [Builtin.zeroCells, Array.toList_map, List.mem_map] at hv
  obtain ⟨k, _, rfl⟩ := hv
  have hk : k % 17 < 17 := Nat.mod_lt _ (by decide)
  show ((#[.int .i64 0, .int .u8 0, .int .u8 0, .int .u8 0, .int .u8 0, .int .u8 0, .int .u8 0, .int .u8 0, .int .u8 0, .int .u8 0, .int .u8 0, .int .u8 0, .int .u8 0, .int .u8 0, .int .u8 0, .int .u8 0, .int .u8 0] : Array Value)[k % 17]!).oneCell' = true
  generalize k % 17 = q at hk
  rcases q with _ | _ | _ | _ | _ | _ | _ | _ | _ | _ | _ | _ | _ | _ | _ | _ | _ | q
  all_goals first | rfl | omega)
 simp only [Nat.add_zero] at hst
 obtain ⟨m, rfl⟩ : ∃ m, n = m + 1 := ⟨n - 1, by omega⟩
 unfold Builtin.clear_
 simp [run_underlying Tryz.underlying106, hst]
theorem index_c (w : World) (A : Option Addr) (c : Nat) (W : Wr) (hown : w.ownsRow 0 143 17 (.slice A W.length c) W.length (wcs W)) (hW : ∀ x ∈ W, x.2.length = 16) (hl : W.length ≤ 1000000) (i vi : Nat) (hvi : w.cell? ⟨vi, 0, none⟩ = some (.int .i64 (i : Int))) :
 Calls Tryz.prog 103 #[.slice A W.length c, .func (.func 63) #[] #[.pointer (some ⟨vi, 0, none⟩)]] w fun e w' => Below w.heap.size w w' ∧
  ((∃ p, ∃ hp : p < W.length, W[p].1 = i ∧ (∀ t, ∀ ht : t < W.length, t < p → W[t].1 ≠ i) ∧ e = .returned (.int .i64 (p : Int))) ∨ ((∀ x ∈ W, x.1 ≠ i) ∧ e = .returned (.int .i64 (-1)))) := by
 have HO := hid hown
 have HW := hid hW
 have HL := hid hl
 have HV := hid hvi
 clear hown hW hl hvi
 go_enter Tryz.func103, Tryz.ntmps103
 go_wp2_with fail
 go_loopw [8] (fun iv wr => ∃ j : Nat, iv = .int .i64 (j : Int) ∧ Hid (j ≤ W.length) ∧ Hid (∀ t, ∀ ht : t < W.length, t < j → W[t].1 ≠ i) ∧ Hid (Below w.heap.size w wr)) (fun iv _ => W.length - (intOf iv).toNat)
 case atStart => exact ⟨0, rfl, hid (Nat.zero_le _), hid (fun t _ h => absurd h (by omega)), hid (Below.refl _ _)⟩
 case round =>
  obtain ⟨j, rfl, hj, hN, hB⟩ := hrel
  rcases Nat.lt_or_ge j W.length with hlt | hge
  · obtain ⟨b, hA, hbl, -⟩ := own_range HO.out (by omega)
    subst hA
    have hR0 := own_elem HO.out HW.out hlt
    have hR := rangeAt_keep hR0 (hB.out.block b hbl)
    have hx := HW.out W[j] (List.getElem_mem hlt)
    have hvi : wr.cell? ⟨vi, 0, none⟩ = some (.int .i64 (i : Int)) := (World.cell?_of_block (hB.out.block vi (block_lt0 HV.out))).trans HV.out
    have HCL := hid (clo_c W[j].1 W[j].2 hx i vi wr hvi)
    have HJ : Hid (W[j].1 = W[j].1) := hid rfl
    have HR := hid hR
    obtain ⟨d, hd1, hd2⟩ := Tryz.undW2
    have HD := hid (And.intro hd1 hd2)
    have HIN : Hid ((Tryz.prog.info? 143).map (·.size) = some (wc W[j].1 W[j].2).length) := hid (by rw [wc_len hx]; exact Tryz.infoW1)
    have HNX : Hid (W[j].1 ≠ i → ∀ t, ∀ ht : t < W.length, t < j + 1 → W[t].1 ≠ i) := hid (fun hne t ht h => by
     rcases Nat.lt_or_ge t j with h1 | h1
     · exact hN.out t ht h1
     · have : t = j := by omega
       subst this; exact hne)
    have HXJ : Hid (∀ k : Nat, W[j].1 = k → W[j].1 = k) := hid (fun _ h => h)
    have HPQ : Hid (∃ q : Nat, q = W[j].1) := hid ⟨_, rfl⟩
    obtain ⟨x, hxq⟩ := HPQ.out
    rw [← hxq] at HCL HR HIN HNX
    have HXQ := hid hxq
    generalize W[j].2 = bb at *
    generalize hE : wc x bb = E at *
    have j1 : (0 : Int) ≤ (j : Int) := by omega
    have j2 : (j : Int) < (W.length : Int) := by omega
    have j3 : decide ((j : Int) < (W.length : Int)) = true := by simpa using hlt
    have j4 : decide (j < W.length) = true := by simpa using hlt
    have wj : wrap64 ((j : Int) + 1) = ((j + 1 : Nat) : Int) := by have := HL.out; unfold wrap64; omega
    clear hR0 hR hx hvi hd1 hd2 HJ hxq HXJ HPQ hE
    as_aux_lemma =>
    go_wp2_with (refine wpList_load_mid rfl 143 _ rfl b (j * 17) rfl E d HR.out HD.out.1 HD.out.2 HIN.out ?_)
    refine HCL.out.mono ?_
    rintro e w2 ⟨rfl, hb2⟩
    have HB2 : Hid (Below w.heap.size w w2) := hid (hB.out.trans (hb2.mono hB.out.size))
    clear hb2 HCL HR HIN
    by_cases hxi : x = i
    · have e1 : decide (x = i) = true := by simpa using hxi
      rw [e1]
      have HXI := hid hxi
      clear hxi e1
      go_wp2
      go_ret
      exact ⟨HB2.out, .inl ⟨j, hlt, by rw [← HXQ.out]; exact HXI.out, hN.out, rfl⟩⟩
    · have e1 : decide (x = i) = false := by simpa using hxi
      rw [e1]
      have HXI := hid hxi
      clear hxi e1
      go_wp2
      exact ⟨⟨j + 1, congrArg (Value.int .i64) wj, hid hlt, hid (HNX.out HXI.out), HB2⟩, by rw [wj]; simp [intOf]; omega⟩
  · have j3 : decide ((j : Int) < (W.length : Int)) = false := by simp; omega
    have j4 : decide (j < W.length) = false := by simp; omega
    go_wp2
    go_ret
    refine ⟨hB.out, .inr ⟨fun x hx => ?_, rfl⟩⟩
    obtain ⟨t, ht, e⟩ := List.getElem_of_mem hx
    rw [← e]
    exact hN.out t ht (by omega)
def fil (W : Wr) (i : Nat) : Wr := W.filter fun x => decide (x.1 ≠ i)
theorem fil_snoc (W : Wr) (i : Nat) (x : Nat × List UInt8) : fil (W ++ [x]) i = fil W i ++ (if x.1 = i then [] else [x]) := by
 unfold fil
 rw [List.filter_append]
 congr 1
 by_cases h : x.1 = i <;> simp [h]
theorem fil_all (W : Wr) (i : Nat) (h : ∀ x ∈ W, x.1 ≠ i) : fil W i = W := List.filter_eq_self.2 fun x hx => by simpa using h x hx
theorem fil_len (W : Wr) (i : Nat) : (fil W i).length ≤ W.length := List.length_filter_le _ _
structure Del (w wr : World) (bw c : Nat) (W V : Wr) (i p j : Nat) : Prop where
 own : wr.ownsRow 0 143 17 (.slice (some ⟨bw, 0, none⟩) V.length c) V.length (wcs V)
 len : V.length = W.length
 V16 : ∀ x ∈ V, x.2.length = 16
 head : V.take p = fil (W.take j) i
 p_ : p = (fil (W.take j) i).length
 tail : V.drop j = W.drop j
 pj : p < j
 jl : j ≤ W.length
 gr : w.grownBy wr (some bw)
 lt : bw < w.heap.size
section
variable {w wr : World} {bw c i p j : Nat} {W V : Wr}
theorem Del.bel (h : Del w wr bw c W V i p j) {wr' : World} (hb : Below wr.heap.size wr wr') : Del w wr' bw c W V i p j :=
 ⟨own_keep h.own fun b hA => hb.block b (own_lt h.own b hA), h.len, h.V16, h.head, h.p_, h.tail, h.pj, h.jl, h.gr.trans ⟨hb.os, hb.tape, hb.output, hb.size, fun k hk _ => hb.block k hk⟩, h.lt⟩
theorem Del.at_ (h : Del w wr bw c W V i p j) (hj : j < W.length) : V[j]'(by rw [h.len]; exact hj) = W[j] := by
 have hv : j < V.length := by rw [h.len]; exact hj
 have h1 := List.drop_eq_getElem_cons hv
 have h2 := List.drop_eq_getElem_cons hj
 rw [h.tail, h2] at h1
 injection h1 with h1
 exact h1.symm
theorem Del.drop (h : Del w wr bw c W V i p j) (hj : j < W.length) (he : W[j].1 = i) : Del w wr bw c W V i p (j + 1) := by
 have e : fil (W.take (j + 1)) i = fil (W.take j) i := by rw [List.take_succ_eq_append_getElem hj, fil_snoc, if_pos he, List.append_nil]
 refine ⟨h.own, h.len, h.V16, by rw [e]; exact h.head, by rw [e]; exact h.p_, ?_, by have := h.pj; omega, hj, h.gr, h.lt⟩
 rw [← List.drop_drop, h.tail, List.drop_drop]
theorem Del.keep (h : Del w wr bw c W V i p j) (hj : j < W.length) (hne : W[j].1 ≠ i) (h16 : W[j].2.length = 16) : Del w (wr.setCells bw (p * 17) (wc W[j].1 W[j].2)) bw c W (V.set p (W[j].1, W[j].2)) i (p + 1) (j + 1) := by
 have e : fil (W.take (j + 1)) i = fil (W.take j) i ++ [W[j]] := by rw [List.take_succ_eq_append_getElem hj, fil_snoc, if_neg hne]
 have hp : p < V.length := by rw [h.len]; have := h.pj; omega
 refine ⟨?_, by simp [h.len], fun x hx => ?_, ?_, by rw [e, List.length_append, ← h.p_, List.length_singleton], ?_, by have := h.pj; omega, hj, h.gr.trans (grown_setCells bw _ _ _), h.lt⟩
 · have := own_set h.own h.V16 hp W[j].1 W[j].2 h16
   rw [List.length_set]
   exact this
 · rcases List.mem_or_eq_of_mem_set hx with hx | hx
   · exact h.V16 x hx
   · rw [hx]; exact h16
 · rw [e, ← h.head, List.take_succ_eq_append_getElem (by simpa using hp), List.take_set_of_le (nl _), List.getElem_set_self]
 · rw [List.drop_set_of_lt (by have := h.pj; omega), ← List.drop_drop, h.tail, List.drop_drop]
end
theorem delete_c (w : World) (A : Option Addr) (c : Nat) (W : Wr) (hown : w.ownsRow 0 143 17 (.slice A W.length c) W.length (wcs W)) (hW : ∀ x ∈ W, x.2.length = 16) (hl : W.length ≤ 1000000) (i vi : Nat) (hvi : w.cell? ⟨vi, 0, none⟩ = some (.int .i64 (i : Int))) (hA : ∀ b, A.map (·.block) = some b → b ≠ vi) :
 Calls Tryz.prog 62 #[.slice A W.length c, .func (.func 63) #[] #[.pointer (some ⟨vi, 0, none⟩)]] w fun e w' =>
  e = .returned (.slice A (fil W i).length c) ∧ w'.ownsRow 0 143 17 (.slice A (fil W i).length c) (fil W i).length (wcs (fil W i)) ∧ w.grownBy w' (A.map (·.block)) := by
 have HO := hid hown
 have HW := hid hW
 have HL := hid hl
 have HV := hid hvi
 have HA := hid hA
 clear hown hW hl hvi hA
 go_enter Tryz.func62, Tryz.ntmps62
 go_wp2_with fail
 refine (index_c w A c W HO.out HW.out HL.out i vi HV.out).mono ?_
 rintro e w1 ⟨hb1, ⟨p, hp, hpi, hbefore, rfl⟩ | ⟨hno, rfl⟩⟩
 · obtain ⟨b, hAb, hbl, -⟩ := own_range HO.out (by omega)
   subst hAb
   have e1 : ((p : Int) == -1) = false := beq_false_of_ne (by omega)
   obtain ⟨pn, hpn⟩ : ∃ pn, pn = p + 1 := ⟨_, rfl⟩
   have wp1 : wrap64 ((p : Int) + 1) = (pn : Int) := by have := HL.out; unfold wrap64; omega
   have HBV : Hid (b ≠ vi) := hid (HA.out b rfl)
   have HD0 : Hid (Del w w1 b c W W i p (p + 1)) := hid (by
    have e : fil (W.take p) i = W.take p := fil_all _ _ fun x hx => by
     obtain ⟨t, ht, he⟩ := List.getElem_of_mem hx
     rw [List.getElem_take] at he
     rw [← he]
     simp at ht
     exact hbefore t (by omega) (by omega)
    have e2 : fil (W.take (p + 1)) i = W.take p := by rw [List.take_succ_eq_append_getElem hp, fil_snoc, if_pos hpi, List.append_nil, e]
    exact ⟨own_keep HO.out fun b hA => hb1.block b (own_lt HO.out b hA), rfl, HW.out, e2.symm, by rw [e2]; simp; omega, rfl, by omega, by omega, ⟨hb1.os, hb1.tape, hb1.output, hb1.size, fun k hk _ => hb1.block k hk⟩, hbl⟩)
   rw [← hpn] at HD0
   clear hb1 hpi hbefore HO HA hpn
   go_wp2_with fail
   rw [wp1]
   go_loopw [5, 6] (fun pv iv wr => ∃ (p j : Nat) (V : Wr), pv = .int .i64 (p : Int) ∧ iv = .int .i64 (j : Int) ∧ Hid (Del w wr b c W V i p j)) (fun _ iv _ => W.length - (intOf iv).toNat)
   case atStart => exact ⟨p, pn, W, rfl, rfl, HD0⟩
   case round =>
    obtain ⟨p, j, V, rfl, rfl, hD⟩ := hrel
    clear HD0 e1 wp1 hp
    have HLV := hid hD.out.len
    rcases Nat.lt_or_ge j W.length with hlt | hge
    · have hR0 := own_elem hD.out.own hD.out.V16 (j := j) (by rw [hD.out.len]; exact hlt)
      rw [hD.out.at_ hlt] at hR0
      have hx := HW.out W[j] (List.getElem_mem hlt)
      have hvi : ∀ wx, Below wr.heap.size wr wx → wx.cell? ⟨vi, 0, none⟩ = some (.int .i64 (i : Int)) := fun wx hb => by
       have h1 : wr.heap[vi]? = w.heap[vi]? := hD.out.gr.block vi (block_lt0 HV.out) (fun e => HBV.out (by injection e with e; exact e.symm))
       have h2 : vi < wr.heap.size := Nat.lt_of_lt_of_le (block_lt0 HV.out) hD.out.gr.size
       rw [World.cell?_of_block (hb.block vi h2), World.cell?_of_block h1]
       exact HV.out
      have HVI := hid hvi
      have HR := hid hR0
      obtain ⟨d, hd1, hd2⟩ := Tryz.undW2
      have HD := hid (And.intro hd1 hd2)
      have HDR := hid (fun he => hD.out.drop hlt he)
      have HKE := hid (fun wx (hb : Below wr.heap.size wr wx) hne => (hD.out.bel hb).keep hlt hne hx)
      have HX := hid hx
      obtain ⟨x, hxq⟩ : ∃ x, x = W[j].1 := ⟨_, rfl⟩
      obtain ⟨bb, hbq⟩ : ∃ bb, bb = W[j].2 := ⟨_, rfl⟩
      rw [← hxq] at HDR HKE HR
      rw [← hbq] at HR HKE HX
      have HIN : Hid ((Tryz.prog.info? 143).map (·.size) = some (wc x bb).length) := hid (by rw [wc_len HX.out]; exact Tryz.infoW1)
      have HT : Hid ((wr.alloc (.cells #[.int .i64 0, .int .u8 0, .int .u8 0, .int .u8 0, .int .u8 0, .int .u8 0, .int .u8 0, .int .u8 0, .int .u8 0, .int .u8 0, .int .u8 0, .int .u8 0, .int .u8 0, .int .u8 0, .int .u8 0, .int .u8 0, .int .u8 0] 143)).there wr.heap.size 0 (wc x bb).toArray.size) := hid (by show World.there _ _ 0 (wc x bb).length; rw [wc_len HX.out]; exact z17 wr)
      have HC : Hid ((wc x bb).toArray.all (·.oneCell') = true) := hid (all_oneCell_toArray (wc_one x bb))
      have HVR : Hid (((wr.alloc (.cells #[.int .i64 0, .int .u8 0, .int .u8 0, .int .u8 0, .int .u8 0, .int .u8 0, .int .u8 0, .int .u8 0, .int .u8 0, .int .u8 0, .int .u8 0, .int .u8 0, .int .u8 0, .int .u8 0, .int .u8 0, .int .u8 0, .int .u8 0] 143)).setCells wr.heap.size 0 (wc x bb)).rangeAt wr.heap.size 0 (wc x bb) ∧ Below wr.heap.size wr ((wr.alloc (.cells #[.int .i64 0, .int .u8 0, .int .u8 0, .int .u8 0, .int .u8 0, .int .u8 0, .int .u8 0, .int .u8 0, .int .u8 0, .int .u8 0, .int .u8 0, .int .u8 0, .int .u8 0, .int .u8 0, .int .u8 0, .int .u8 0, .int .u8 0] 143)).setCells wr.heap.size 0 (wc x bb)) ∧ wr.heap.size < ((wr.alloc (.cells #[.int .i64 0, .int .u8 0, .int .u8 0, .int .u8 0, .int .u8 0, .int .u8 0, .int .u8 0, .int .u8 0, .int .u8 0, .int .u8 0, .int .u8 0, .int .u8 0, .int .u8 0, .int .u8 0, .int .u8 0, .int .u8 0, .int .u8 0] 143)).setCells wr.heap.size 0 (wc x bb)).heap.size) := hid ⟨World.rangeAt_setCells_same _ _ _ _ (by rw [wc_len HX.out]; exact z17 wr), (Var.of wr x bb HX.out).bel, (Var.of wr x bb HX.out).lt⟩
      have j1 : (0 : Int) ≤ (j : Int) := by omega
      have j2 : (j : Int) < (W.length : Int) := by omega
      have j3 : decide ((j : Int) < (W.length : Int)) = true := by simpa using hlt
      have j4 : decide (j < W.length) = true := by simpa using hlt
      have p1 : (0 : Int) ≤ (p : Int) := by omega
      have p2 : (p : Int) < (W.length : Int) := by have := hD.out.pj; omega
      have wj : wrap64 ((j : Int) + 1) = ((j + 1 : Nat) : Int) := by have := HL.out; unfold wrap64; omega
      have wp : wrap64 ((p : Int) + 1) = ((p + 1 : Nat) : Int) := by have := HL.out; have := hD.out.pj; unfold wrap64; omega
      have HPV : Hid (p < V.length) := hid (by rw [hD.out.len]; have := hD.out.pj; omega)
      have HOW := hid (fun wx (hb : Below wr.heap.size wr wx) => own_there (hD.out.bel hb).own (o := p * 17) (k := 17) (by have := HPV.out; omega))
      have CL := hid (fun wx (hb : Below wr.heap.size wr wx) => clo_c x bb HX.out i vi wx (HVI.out wx hb))
      clear hx hvi hR0 hd1 hd2 hxq hbq HVI HX HPV
      generalize wc x bb = E at *
      as_aux_lemma =>
      go_upto_region 8 with (first | (refine wpList_load_mid rfl 143 _ rfl b (j * 17) rfl E d HR.out HD.out.1 HD.out.2 HIN.out ?_) | (refine wpList_store_mid rfl 143 _ _ rfl _ _ E.toArray rfl rfl HT.out HIN.out HC.out ?_))
      simp only [Act.put]
      generalize (wr.alloc (.cells #[.int .i64 0, .int .u8 0, .int .u8 0, .int .u8 0, .int .u8 0, .int .u8 0, .int .u8 0, .int .u8 0, .int .u8 0, .int .u8 0, .int .u8 0, .int .u8 0, .int .u8 0, .int .u8 0, .int .u8 0, .int .u8 0, .int .u8 0] 143)).setCells wr.heap.size 0 E = w2 at *
      clear HR HT
      go_wp2_with (refine wpList_load_mid rfl 143 _ rfl wr.heap.size 0 rfl E d HVR.out.1 HD.out.1 HD.out.2 HIN.out ?_)
      refine (CL.out w2 HVR.out.2.1).mono ?_
      rintro e w3 ⟨rfl, hb3⟩
      have HB3 : Hid (Below wr.heap.size wr w3) := hid (HVR.out.2.1.trans (hb3.mono HVR.out.2.1.size))
      have HR3 : Hid (w3.rangeAt wr.heap.size 0 E) := hid (rangeAt_keep HVR.out.1 (hb3.block _ HVR.out.2.2))
      clear hb3 HVR CL
      by_cases hxi : x = i
      · have e1 : decide (x = i) = true := by simpa using hxi
        rw [e1]
        have HD9 := hid ((HDR.out hxi).bel HB3.out)
        clear hxi e1
        go_wp2
        exact ⟨⟨p, j + 1, V, rfl, congrArg (Value.int .i64) wj, HD9⟩, by rw [wj]; simp [intOf]; omega⟩
      · have e1 : decide (x = i) = false := by simpa using hxi
        rw [e1]
        have HD9 := hid (HKE.out w3 HB3.out hxi)
        have HT9 : Hid (w3.there b (p * 17) E.toArray.size) := hid (by
         have h0 := HIN.out
         rw [Tryz.infoW1] at h0
         injection h0 with h0
         show World.there _ _ _ E.length
         rw [← h0]
         exact HOW.out w3 HB3.out)
        clear hxi e1 HKE HDR HOW
        go_wp2_with (first | (refine wpList_load_mid rfl 143 _ rfl wr.heap.size 0 rfl E d HR3.out HD.out.1 HD.out.2 HIN.out ?_) | (refine wpList_store_mid rfl 143 _ _ rfl b (p * 17) E.toArray rfl rfl HT9.out HIN.out HC.out ?_))
        exact ⟨⟨p + 1, j + 1, _, congrArg (Value.int .i64) wp, congrArg (Value.int .i64) wj, HD9⟩, by show W.length - (intOf (.int .i64 (wrap64 ((j : Int) + 1)))).toNat < _; rw [wj]; simp [intOf]; omega⟩
    · have HJ : Hid (j = W.length) := hid (by have := hD.out.jl; omega)
      have j3 : decide ((j : Int) < (W.length : Int)) = false := by simp; omega
      have j4 : decide (j < W.length) = false := by simp; omega
      have p1 : (0 : Int) ≤ (p : Int) := by omega
      have p2 : (p : Int) ≤ (W.length : Int) := by have := hD.out.pj; have := hD.out.jl; omega
      have p3 : (W.length : Int) ≤ (c : Int) := by
       obtain ⟨_, _, hnc, _⟩ := own_parts hD.out.own
       rw [hD.out.len] at hnc
       omega
      have hpl : p < W.length := by have := hD.out.pj; have := HJ.out; omega
      have hjW := HJ.out
      obtain ⟨Z, hZ, hcl⟩ := run_clear_w wr 0 b (p * 17) (W.length - p) (c - p) (by omega) (own_there hD.out.own (by rw [hD.out.len]; omega))
      have hfin := own_cut hD.out.own hD.out.V16 (p := p) (by rw [hD.out.len]; omega) Z (by rw [hZ, hD.out.len]; omega)
      have ef : fil (W.take j) i = fil W i := by rw [HJ.out, List.take_length]
      rw [hD.out.head, ef] at hfin
      have ep : p = (fil W i).length := by rw [← ef]; exact hD.out.p_
      have HFIN := hid hfin
      have HG : Hid (w.grownBy (wr.setCells b (p * 17) Z) (some b)) := hid (hD.out.gr.trans (grown_setCells b Z _ _))
      have HEP := hid ep
      generalize wr.setCells b (p * 17) Z = w9 at *
      clear hD hZ hfin ef ep hge HJ
      as_aux_lemma =>
      go_wp2
      go_ret
      have hp9 := HEP.out
      subst hp9
      exact ⟨rfl, HFIN.out, HG.out⟩
 · have e1 : ((-1 : Int) == -1) = true := rfl
   have ef := fil_all W i hno
   have HF := hid ef
   have HB1 := hid hb1
   clear ef hno hb1
   go_wp2
   go_ret
   rw [HF.out]
   exact ⟨rfl, own_keep HO.out fun b hA => HB1.out.block b (own_lt HO.out b hA), ⟨HB1.out.os, HB1.out.tape, HB1.out.output, HB1.out.size, fun k hk _ => HB1.out.block k hk⟩⟩
theorem Gen.over {w0 w w7 : World} {F : Nat → Prop} {g : Nat} {s : St} {k q c : Nat} {A : Option Addr} {i : Nat} {l : List UInt8} (hl : l.length ≤ 16) (h : Gen w0 w F g s k q A c (upd s.K i (pad l)) (upd (app s.W s.K) i (pad l)))
 (ho : w7.ownsRow 0 143 17 (.slice A (fil s.W i).length c) (fil s.W i).length (wcs (fil s.W i))) (hg : w.grownBy w7 (A.map (·.block))) :
 Left w0 (w7.setCell ⟨g, 2, none⟩ (.slice A (fil s.W i).length c)) F g (s.over i l) := by
 have hg2 := grown_setCell w7 g 2 (.slice A (fil s.W i).length c)
 have lt := fun j hj => h.lt j hj
 have nA : ∀ j, F j → (∀ d, A.map (·.block) = some d → d ≠ j) → w7.heap[j]? = w.heap[j]? := fun j hj hd => hg.block j (lt j hj) (fun e => hd j e.symm rfl)
 have eg := nA g h.Fg fun d hd => (h.Ag d hd).1
 have ek := nA k h.Fk fun d hd => (h.Ag d hd).2.1
 have eq' := nA q h.Fq fun d hd => (h.Ag d hd).2.2.1
 have s7 := hg.size
 have lt7 : ∀ j, F j → j < w7.heap.size := fun j hj => Nat.lt_of_lt_of_le (lt j hj) s7
 refine ⟨F, ⟨k, q, A, c, ?_, ?_, ?_, ?_, h.gk, h.gq, h.kq, h.Ag, h.Fg, h.Fk, h.Fq, fun j hj => Nat.lt_of_lt_of_le (lt7 j hj) hg2.size, h.ok.over i hl⟩, ?_, fun j hj => .inl hj⟩
 · exact (h.blk.keep eg).store 2 (.slice A (fil s.W i).length c)
 · exact (h.kept.keep s7 ek).keep hg2.size (hg2.block k (lt7 k h.Fk) (by simpa using Ne.symm h.gk))
 · have := (h.seen.keep s7 eq').keep hg2.size (hg2.block q (lt7 q h.Fq) (by simpa using Ne.symm h.gq))
   exact this.same fun j _ => congrFun (app_filter _ _ _ _) j
 · exact own_keep ho fun b hb => hg2.block b (own_lt ho b hb) (by simpa using (h.Ag b hb).1)
 · exact (h.kp.trans (Kp.grown hg fun j hj => .inl (h.Ag j hj).2.2.2)).trans (Kp.setCell w7 g 2 _ h.Fg)
theorem over_c (w : World) (F : Nat → Prop) (g : Nat) (s1 : St) (h : Dev w F g s1) (i : Nat) (hi : i < s1.n) (BA : Option Addr) (n c : Nat) (l : List UInt8) (hr : Bts w 0 w.heap.size BA n l) (hn : n ≤ 16) (hW : s1.W.length ≤ 1000000) :
 Calls Tryz.prog 22 #[.pointer (some ⟨g, 0, none⟩), .int .i64 (i : Int), .slice BA n c] w fun e w' => e = .returned (.int .i64 0) ∧ Left w w' F g (s1.over i l) := by
 have hbel : Below w.heap.size w (w.alloc (.cells #[.int .i64 (i : Int)] 3)) := (Below.refl _ _).alloc (nl _) _
 have hvi : (w.alloc (.cells #[.int .i64 (i : Int)] 3)).cell? ⟨w.heap.size, 0, none⟩ = some (.int .i64 (i : Int)) := by
  rw [(Blk.new w 3 #[.int .i64 (i : Int)]).cell]
  rfl
 have hsz : (w.alloc (.cells #[.int .i64 (i : Int)] 3)).heap.size = w.heap.size + 1 := by simp
 have hw := wrong_ok _ F g s1 (h.bel hbel) i BA n c (by unfold bad; omega)
 have HI : Hid (i < s1.n) := hid hi
 have HBT : Hid (Bts (w.alloc (.cells #[.int .i64 (i : Int)] 3)) 0 (w.alloc (.cells #[.int .i64 (i : Int)] 3)).heap.size BA n l) := hid ((hr.below hbel (nl _)).wide (nl _) hbel.size)
 have HN := hid hn
 have HL := hid hr.len
 have HPL : Hid ((pad l).length = 16) := hid (pad_len l (by rw [hr.len]; exact hn))
 have HLL : Hid (l.length ≤ 16) := hid (by rw [hr.len]; exact hn)
 have HW := hid hW
 have HF := hid h.lt
 obtain ⟨k, q, A1, c1, hd⟩ := h.bel hbel
 have HG0 := hid (Gen.of hd)
 obtain ⟨x0, x1, x2, -⟩ := hd.cells
 have HK : Hid (Kp F w (w.alloc (.cells #[.int .i64 (i : Int)] 3))) := hid (Kp.ofBelow hbel)
 have HVN : Hid (¬ F w.heap.size) := hid (h.no (nl _))
 have HP : Hid ((bs (pad l)).length = 16) := hid (by rw [bs_len, HPL.out])
 have HIN : Hid ((Tryz.prog.info? 139).map (·.size) = some (bs (pad l)).length) := hid (by rw [HP.out]; exact Tryz.infoB)
 have i1 : (0 : Int) ≤ (i : Int) := by omega
 have i2 : (i : Int) < (s1.n : Int) := by omega
 clear hd h hr hn hW hi hbel
 go_enter Tryz.func22, Tryz.ntmps22
 go_wp2_with fail
 refine hw.mono ?_
 rintro e w' ⟨rfl, rfl⟩
 generalize w.alloc (.cells #[.int .i64 (i : Int)] 3) = w1 at *
 clear hw
 go_wp2_with fail
 refine wp_region_held_drew (S := fun wx => wx.cell? ⟨g, 0, none⟩ = some (.slice (some ⟨k, 0, none⟩) s1.n s1.n) ∧ wx.cell? ⟨w.heap.size, 0, none⟩ = some (.int .i64 (i : Int))) (by kernel_rfl) ⟨by simpa using x0, by simpa using hvi⟩ (fun HS => ?_)
 refine qT 0 ?v0 ?y0 HS ?r0
 case y0 => refine qI fun wS hSw => ?_; go_simp; try with_reducible rfl
 try simp only [Act.put, zA]
 refine qT 1 ?v1 ?y1 HS ?r1
 case y1 => refine qI fun wS hSw => ?_; go_simp; try with_reducible rfl
 try simp only [Act.put, zA]
 refine qT 2 ?v2 ?y2 HS ?r2
 case y2 => refine qI fun wS hSw => ?_; go_simp; try with_reducible rfl
 try simp only [Act.put, zA]
 refine qT 3 ?v3 ?y3 HS ?r3
 case y3 =>
  refine qI fun wS hSw => ?_
  obtain ⟨z0, z1⟩ := hSw
  go_simp
  try with_reducible rfl
 try simp only [Act.put, zA]
 refine qT 4 ?v4 ?y4 HS ?r4
 case y4 =>
  refine qI fun wS hSw => ?_
  obtain ⟨z0, z1⟩ := hSw
  go_simp
  try with_reducible rfl
 try simp only [Act.put, zA]
 refine qT 5 ?v5 ?y5 HS ?r5
 case y5 => refine qI fun wS hSw => ?_; go_simp; try with_reducible rfl
 try simp only [Act.put, zA]
 refine qR 6 fun K hK => ?_
 go_simp
 refine (whole_c BA n c l w1.drew (HBT.out.kp (Kp.drew (fun _ => False) w1) (fun _ _ _ => id)) HN.out).mono ?_
 rintro e w2 ⟨rfl, hb2⟩
 have HB2 : Hid (Below w1.heap.size w1 w2) := hid (((Below.refl _ _).drew).trans (hb2.mono (by simp)))
 clear hb2
 refine hK.out _ _ ⟨by have := World.cell?_of_block (a := ⟨g, 0, none⟩) (HB2.out.block g HG0.out.blk.lt); rw [this]; exact x0, by have := World.cell?_of_block (a := ⟨w.heap.size, 0, none⟩) (HB2.out.block w.heap.size (by rw [hsz]; omega)); rw [this]; exact hvi⟩ (fun HS => ?_)
 clear hK K
 try simp only [Act.put, zA]
 refine qT 7 ?v7 ?y7 HS ?r7
 case y7 => refine qI fun wS hSw => ?_; go_simp; try with_reducible rfl
 try simp only [Act.put, zA]
 refine qR 8 fun K hK => ?_
 rw [if_pos (by rfl)]
 refine wp_store_mid 139 _ _ rfl k (i * 16) (bs (pad l)).toArray rfl rfl (by show World.there _ _ _ (bs (pad l)).length; rw [HP.out]; exact there_part (HG0.out.bel HB2.out).kept.there HI.out) HIN.out (all_oneCell_toArray (bs_one _)) ?_
 refine hK.out _ _ ⟨by have h0 := ((HG0.out.bel HB2.out).setK HG0.out.ok.K HI.out HPL.out).blk.cell 0; simpa using h0, (World.cell?_of_block ((grown_setCells k (bs (pad l)) (i * 16) w2).block w.heap.size (Nat.lt_of_lt_of_le (by rw [hsz]; omega) HB2.out.size) (fun e => HVN.out (by injection e with e; rw [e]; exact HG0.out.Fk)))).trans HS.2⟩ (fun HS => ?_)
 clear hK K
 try simp only [Act.put]
 refine qD ?_
 have HG2 : Hid (Gen w1 (w2.setCells k (i * 16) (bs (pad l))) F g s1 k q A1 c1 (upd s1.K i (pad l)) (app s1.W s1.K)) := hid ((HG0.out.bel HB2.out).setK HG0.out.ok.K HI.out HPL.out)
 have HVC : Hid ((w2.setCells k (i * 16) (bs (pad l))).cell? ⟨w.heap.size, 0, none⟩ = some (.int .i64 (i : Int))) := hid HS.2
 clear HS x0 x1 x2 HBT hvi
 generalize w2.setCells k (i * 16) (bs (pad l)) = w3 at *
 have y0 := HG2.out.blk.cell 0
 have y1 := HG2.out.blk.cell 1
 simp at y0 y1
 have y2 := HVC.out
 have y3 : w3.rangeAt k (i * 16) (bs (pad l)) := by have := HG2.out.kept.row i HI.out; rwa [upd_same] at this
 clear HVC
 go_wp2_with fail
 refine wp_region_held_drew (S := fun wx => wx.cell? ⟨g, 0, none⟩ = some (.slice (some ⟨k, 0, none⟩) s1.n s1.n) ∧ wx.cell? ⟨g, 1, none⟩ = some (.slice (some ⟨q, 0, none⟩) s1.n s1.n) ∧ wx.cell? ⟨w.heap.size, 0, none⟩ = some (.int .i64 (i : Int)) ∧ wx.rangeAt k (i * 16) (bs (pad l))) (by kernel_rfl) ⟨by simpa using y0, by simpa using y1, by simpa using y2, by simpa using y3⟩ (fun HS => ?_)
 have B4 : Hid (Below w3.heap.size w3 w3.drew) := hid ((Below.refl _ _).drew)
 generalize w3.drew = w4 at *
 refine qT 0 ?vs0 ?ys0 HS ?rs0
 case ys0 => refine qI fun wS hSw => ?_; go_simp; try with_reducible rfl
 try simp only [Act.put, zA]
 refine qT 1 ?vs1 ?ys1 HS ?rs1
 case ys1 => refine qI fun wS hSw => ?_; go_simp; try with_reducible rfl
 try simp only [Act.put, zA]
 refine qT 2 ?vs2 ?ys2 HS ?rs2
 case ys2 => refine qI fun wS hSw => ?_; go_simp; try with_reducible rfl
 try simp only [Act.put, zA]
 refine qT 3 ?vs3 ?ys3 HS ?rs3
 case ys3 =>
  refine qI fun wS hSw => ?_
  obtain ⟨z0, z1, z2, z3⟩ := hSw
  go_simp
  try with_reducible rfl
 try simp only [Act.put, zA]
 refine qT 4 ?vs4 ?ys4 HS ?rs4
 case ys4 =>
  refine qI fun wS hSw => ?_
  obtain ⟨z0, z1, z2, z3⟩ := hSw
  go_simp
  try with_reducible rfl
 try simp only [Act.put, zA]
 refine qT 5 ?vs5 ?ys5 HS ?rs5
 case ys5 => refine qI fun wS hSw => ?_; go_simp; try with_reducible rfl
 try simp only [Act.put, zA]
 refine qT 6 ?vs6 ?ys6 HS ?rs6
 case ys6 => refine qI fun wS hSw => ?_; go_simp; try with_reducible rfl
 try simp only [Act.put, zA]
 refine qT 7 ?vs7 ?ys7 HS ?rs7
 case ys7 => refine qI fun wS hSw => ?_; go_simp; try with_reducible rfl
 try simp only [Act.put, zA]
 refine qT 8 ?vs8 ?ys8 HS ?rs8
 case ys8 =>
  refine qI fun wS hSw => ?_
  obtain ⟨z0, z1, z2, z3⟩ := hSw
  go_simp
  try with_reducible rfl
 try simp only [Act.put, zA]
 refine qT 9 ?vs9 ?ys9 HS ?rs9
 case ys9 =>
  refine qI fun wS hSw => ?_
  obtain ⟨z0, z1, z2, z3⟩ := hSw
  go_simp
  try with_reducible rfl
 try simp only [Act.put, zA]
 refine qT 10 ?vs10 ?ys10 HS ?rs10
 case ys10 => refine qI fun wS hSw => ?_; go_simp; try with_reducible rfl
 try simp only [Act.put, zA]
 refine qT 11 ?vs11 ?ys11 HS ?rs11
 case ys11 =>
  refine qI fun wS hSw => ?_
  refine Eq.trans (exec_load_mid 139 (.tmp 33) ?_ k (i * 16) ?_ (bs (pad l)) _ hSw.2.2.2 Tryz.undB rfl HIN.out) ?_
  · rfl
  · rfl
  · with_reducible rfl
 try simp only [Act.put, zA]
 refine qT 12 ?vs12 ?ys12 HS ?rs12
 case ys12 => refine qI fun wS hSw => ?_; go_simp; try with_reducible rfl
 try simp only [Act.put, zA]
 refine qR 13 fun K hK => ?_
 rw [if_pos (by rfl)]
 refine wp_store_mid 139 _ _ rfl q (i * 16) (bs (pad l)).toArray rfl rfl (by show World.there _ _ _ (bs (pad l)).length; rw [HP.out]; exact there_part (HG2.out.bel B4.out).seen.there HI.out) HIN.out (all_oneCell_toArray (bs_one _)) ?_
 refine hK.out _ _ ⟨by have h0 := ((HG2.out.bel B4.out).setS HG2.out.ok.S HI.out HPL.out).blk.cell 0; simpa using h0, by have h0 := ((HG2.out.bel B4.out).setS HG2.out.ok.S HI.out HPL.out).blk.cell 1; simpa using h0, (World.cell?_of_block ((grown_setCells q (bs (pad l)) (i * 16) w4).block w.heap.size (block_lt0 HS.2.2.1) (fun e => HVN.out (by injection e with e; rw [e]; exact HG2.out.Fq)))).trans HS.2.2.1, World.rangeAt_setCells_apart HS.2.2.2 _ _ _ (.inl HG2.out.kq)⟩ (fun HS => ?_)
 clear hK K
 try simp only [Act.put]
 refine qD ?_
 have HG4 : Hid (Gen w1 (w4.setCells q (i * 16) (bs (pad l))) F g s1 k q A1 c1 (upd s1.K i (pad l)) (upd (app s1.W s1.K) i (pad l))) := hid ((HG2.out.bel B4.out).setS HG2.out.ok.S HI.out HPL.out)
 have z2 := HS.2.2.1
 clear HS y0 y1 y2 y3
 generalize w4.setCells q (i * 16) (bs (pad l)) = w5 at *
 have x2 := HG4.out.blk.cell 2
 simp at x2
 have HZ := hid z2
 clear z2
 go_wp2_with fail
 refine (delete_c w5 A1 c1 s1.W HG4.out.wait (fun x hx => (HG4.out.ok.W x hx).2) HW.out i w.heap.size HZ.out (fun b hb e => HVN.out (by rw [← e]; exact (HG4.out.Ag b hb).2.2.2))).mono ?_
 rintro e w7 ⟨rfl, ho7, hg7⟩
 have HE7 := hid (Gen.over HLL.out HG4.out ho7 hg7)
 have eg7 : w7.heap[g]? = w5.heap[g]? := hg7.block g HG4.out.blk.lt (fun e => (HG4.out.Ag g e.symm).1 rfl)
 have f7 := (HG4.out.blk.keep eg7).frozen 2
 have u2 := (HG4.out.blk.keep eg7).cell 2
 simp at u2
 clear ho7 hg7 eg7 HG4 HG2 HG0 HZ x2
 go_wp2
 go_ret
 exact ⟨rfl, Left.after HK.out (fun j hj => .inl hj) HE7.out⟩
end Go.Proofs.YtolaojkcofbkhaaGreat
