import Derived.Test.YtolaojkcofbkhaaGreatRsA
namespace Go.Proofs.YtolaojkcofbkhaaGreat
set_option maxRecDepth 100000
set_option maxHeartbeats 16000000
open Go.RowKit
theorem rdIs_snoc : ∀ (a : Nat) (l r r' : List UInt8) (xs : List Int) (x : Int), rdIs a l = some (xs, r) → rdI r = some (x, r') → rdIs (a + 1) l = some (xs ++ [x], r')
 | 0, l, r, r', xs, x, h, h2 => by
  injection h with h
  injection h with h1 h3
  subst h1 h3
  rw [rdIs, h2]
  rfl
 | a + 1, l, r, r', xs, x, h, h2 => by
  rw [rdIs] at h
  rw [rdIs]
  split at h
  · cases h
  · rename_i y s hy
    split at h
    · cases h
    · rename_i ys s' hys
      injection h with h
      injection h with h1 h3
      subst h1 h3
      rw [rdIs_snoc a s s' r' ys x hys h2]
      rfl
theorem rdIs_stop : ∀ (a m : Nat) (l r : List UInt8) (xs : List Int), rdIs a l = some (xs, r) → rdI r = none → a < m → rdIs m l = none
 | _, 0, _, _, _, _, _, h3 => absurd h3 (Nat.not_lt_zero _)
 | 0, m + 1, l, r, xs, h, h2, _ => by
  injection h with h
  injection h with h1 h3
  subst h1 h3
  rw [rdIs, h2]
 | a + 1, m + 1, l, r, xs, h, h2, h4 => by
  rw [rdIs] at h
  rw [rdIs]
  split at h
  · cases h
  · rename_i y s hy
    split at h
    · cases h
    · rename_i ys s' hys
      injection h with h
      injection h with h1 h3
      subst h1 h3
      rw [rdIs_stop a m s s' ys hys h2 (by omega)]
theorem rdBls_stop : ∀ (a m : Nat) (l r : List UInt8) (xs : List Bb), rdBls a l = some (xs, r) → rdBl r = none → a < m → rdBls m l = none
 | _, 0, _, _, _, _, _, h3 => absurd h3 (Nat.not_lt_zero _)
 | 0, m + 1, l, r, xs, h, h2, _ => by
  injection h with h
  injection h with h1 h3
  subst h1 h3
  rw [rdBls, h2]
 | a + 1, m + 1, l, r, xs, h, h2, h4 => by
  rw [rdBls] at h
  rw [rdBls]
  split at h
  · cases h
  · rename_i y s hy
    split at h
    · cases h
    · rename_i ys s' hys
      injection h with h
      injection h with h1 h3
      subst h1 h3
      rw [rdBls_stop a m s s' ys hys h2 (by omega)]
def refP (b : List UInt8) : List Bb × Bool := if (rd b).2 = 0 ∨ 1000 < (rd b).1 then ([], false) else match rdBls (rd b).1 (b.drop (rd b).2) with
 | none => ([], false)
 | some (l, r) => (l, decide (r = [] ∧ Rgt l))
theorem refP_par (b : List UInt8) : parB b = if (refP b).2 = true then some (refP b).1 else none := by
 unfold parB refP
 by_cases hc : (rd b).2 = 0 ∨ 1000 < (rd b).1
 · rw [if_pos hc, if_pos hc]
   rfl
 · rw [if_neg hc, if_neg hc]
   rcases rdBls (rd b).1 (b.drop (rd b).2) with _ | ⟨l, r⟩
   · rfl
   · dsimp only
     by_cases h : r = [] ∧ Rgt l
     · rw [if_pos h, if_pos (decide_eq_true h)]
     · rw [if_neg h, if_neg (by rw [decide_eq_false h]; decide)]
theorem refP_head {b : List UInt8} (h : (rd b).2 = 0 ∨ 1000 < (rd b).1) : refP b = ([], false) := by unfold refP; rw [if_pos h]
theorem refP_stop {b r : List UInt8} {a : Nat} {xs : List Bb} (hz : (rd b).2 ≠ 0) (hk : (rd b).1 ≤ 1000) (ha : a < (rd b).1) (hx : rdBls a (b.drop (rd b).2) = some (xs, r)) (hn : rdBl r = none) : refP b = ([], false) := by
 unfold refP
 rw [if_neg (fun h => h.elim hz fun h => absurd h (Nat.not_lt.2 hk)), rdBls_stop a _ _ _ _ hx hn ha]
theorem refP_end {b r : List UInt8} {xs : List Bb} (hz : (rd b).2 ≠ 0) (hk : (rd b).1 ≤ 1000) (hx : rdBls (rd b).1 (b.drop (rd b).2) = some (xs, r)) : refP b = (xs, decide (r = [] ∧ Rgt xs)) := by
 unfold refP
 rw [if_neg (fun h => h.elim hz fun h => absurd h (Nat.not_lt.2 hk)), hx]
def ic9 (l : List Int) : List Value := l.map (Value.int .i64)
theorem ic9_len (l : List Int) : (ic9 l).length = l.length := by simp [ic9]
theorem ic9_app (a b : List Int) : ic9 (a ++ b) = ic9 a ++ ic9 b := by simp [ic9]
theorem Tryz.info9 : (Tryz.prog.info? 3).map (fun i => (i.zero, i.size, i.bytes)) = some (some (.int .i64 0), 1, 8) := by kernel_rfl
theorem Tryz.elemU8 : Tryz.prog.underlying 51 = some (.slice (Tryz.prog.elem 51)) := by kernel_rfl
theorem Tryz.sizeU8 (w : World) : (sizeOf (Tryz.prog.elem 51)).run Tryz.prog w = .ok 1 w := by kernel_rfl
theorem run_cutB {w : World} {A : Option Addr} {n c k : Nat} (hkn : k ≤ n) : (Instr.sliceAt 51 (.slice A n c) (some (.int .i64 (k : Int))) none none).run Tryz.prog w = .ok (.slice (if c = k then A else A.map (·.add k)) (n - k) (c - k)) w := by
 rw [run_sliceAt_slice (h := Tryz.elemU8), run_slice_l (ht := Tryz.elemU8) (h0 := by omega) (h1 := by omega), Tryz.sizeU8]
 simp [Result.andThen, sliced]
theorem run_cutLH {w : World} {A : Option Addr} {n c k h : Nat} (h1 : k ≤ h) (h2 : h ≤ c) : (Instr.sliceAt 51 (.slice A n c) (some (.int .i64 (k : Int))) (some (.int .i64 (h : Int))) none).run Tryz.prog w = .ok (.slice (if c = k then A else A.map (·.add k)) (h - k) (c - k)) w := by
 rw [run_sliceAt_slice (h := Tryz.elemU8), run_slice_lh (ht := Tryz.elemU8) (h0 := by omega) (h1 := by omega) (h2 := by omega), Tryz.sizeU8]
 simp [Result.andThen, sliced]
theorem wpList_cutB {w : World} {ops : Array Oper} {rest : List Oper} {op : Oper} {a : Act} {Q : Exit → Act → World → Prop} (hgd : op.guard = none) (s lo : Operand) (ho : op.op = .slice 51 s (some lo) none none) {A : Option Addr} {n c k : Nat} {v : Int}
 (hs : a.eval s = .slice A n c) (hk : a.eval lo = .int .i64 v) (hv : v = (k : Int)) (hkn : k ≤ n) (hnc : n ≤ c) {lo' hi' : Nat} {l : List UInt8} (hb : Bts w lo' hi' A n l)
 (h : ∀ A', Bts w lo' hi' A' (n - k) (l.drop k) → wpList Tryz.prog ops Q rest (a.put op.dst (.slice A' (n - k) (c - k))) w) : wpList Tryz.prog ops Q (op :: rest) a w :=
 wpList_plain hgd fun K hK => by
  subst hv
  have hrun := run_cutB (w := w) (A := A) (n := n) (c := c) hkn
  unfold Oper.wp
  simp only [execOp, ho, hs, hk, Option.map_some, Option.map_none, Sem.run_bind, Sem.run_pure, hrun, Result.andThen_ok]
  exact hK _ _ (h _ (hb.cut hkn hnc))
theorem Bts.cutLH {w : World} {lo hi n c k h : Nat} {A : Option Addr} {l : List UInt8} (hr : Bts w lo hi A n l) (h1 : k ≤ h) (h2 : h ≤ n) (hn : n ≤ c) : Bts w lo hi (if c = k then A else A.map (·.add k)) (h - k) ((l.drop k).take (h - k)) :=
 (hr.cut (Nat.le_trans h1 h2) hn).take (by omega)
theorem wpList_cutLH {w : World} {ops : Array Oper} {rest : List Oper} {op : Oper} {a : Act} {Q : Exit → Act → World → Prop} (hgd : op.guard = none) (s lo hi : Operand) (ho : op.op = .slice 51 s (some lo) (some hi) none) {A : Option Addr} {n c k h : Nat} {v u : Int}
 (hs : a.eval s = .slice A n c) (hk : a.eval lo = .int .i64 v) (hv : v = (k : Int)) (hh : a.eval hi = .int .i64 u) (hu : u = (h : Int)) (h1 : k ≤ h) (h2 : h ≤ n) (hnc : n ≤ c) {lo' hi' : Nat} {l : List UInt8} (hb : Bts w lo' hi' A n l)
 (hK : ∀ A', Bts w lo' hi' A' (h - k) ((l.drop k).take (h - k)) → wpList Tryz.prog ops Q rest (a.put op.dst (.slice A' (h - k) (c - k))) w) : wpList Tryz.prog ops Q (op :: rest) a w :=
 wpList_plain hgd fun K hK2 => by
  subst hv hu
  have hrun := run_cutLH (w := w) (A := A) (n := n) (c := c) h1 (Nat.le_trans h2 hnc)
  unfold Oper.wp
  simp only [execOp, ho, hs, hk, hh, Option.map_some, Option.map_none, Sem.run_bind, Sem.run_pure, hrun, Result.andThen_ok]
  exact hK2 _ _ (hK _ (hb.cutLH h1 h2 hnc))
def PRef (w : World) (b : List UInt8) (e : Ending) (w' : World) : Prop := ∃ A c, e = .returned (.tuple #[.slice A (refP b).1.length c, .bool (refP b).2]) ∧ BRow 90 w' w.heap.size A c (refP b).1 ∧ Below w.heap.size w w'
theorem PRef.no {w w' : World} {b : List UInt8} (h : refP b = ([], false)) (hb : Below w.heap.size w w') : PRef w b (.returned (.tuple #[.slice none 0 0, .bool false])) w' := by
 refine ⟨none, 0, ?_, ?_, hb⟩
 · rw [h]; rfl
 · rw [h]; exact BRow.nil _ _ _
theorem brow_nc {T : TypeId} {w : World} {base : Nat} {A : Option Addr} {c : Nat} {l : List Bb} (h : BRow T w base A c l) : l.length ≤ c := by
 rcases h.2 with ⟨hv, h0⟩ | ⟨g, cap, cur, hv, hb, hg, hnc, _⟩
 · omega
 · injection hv with _ _ hv; rw [hv]; exact hnc
theorem list7 {α : Type} {l : List α} (h : l.length = 7) : ∃ a b c d e f g, l = [a, b, c, d, e, f, g] := by
 match l, h with
 | [a, b, c, d, e, f, g], _ => exact ⟨a, b, c, d, e, f, g, rfl⟩
theorem built_k9 (a b c : Int) : Tryz.prog.built 54 [(0, .int .i64 a), (1, .int .i64 b), (2, .int .i64 c)] = some #[.int .i64 a, .int .i64 b, .int .i64 c] := by kernel_rfl
theorem built_p9 (a b c d e : Int) : Tryz.prog.built 88 [(0, .agg #[.int .i64 a, .int .i64 b, .int .i64 c]), (1, .int .i64 d), (2, .int .i64 e)] = some #[.int .i64 a, .int .i64 b, .int .i64 c, .int .i64 d, .int .i64 e] := by kernel_rfl
theorem Tryz.sizeK9 : (Tryz.prog.info? 54).map (·.size) = some 3 := by kernel_rfl
theorem Tryz.sizeP9 : (Tryz.prog.info? 88).map (·.size) = some 5 := by kernel_rfl
theorem ic9_one (l : List Int) : ∀ u ∈ ic9 l, u.oneCell' = true := by
 intro u hu
 obtain ⟨c, _, rfl⟩ := List.mem_map.1 hu
 rfl
theorem there_mid {w : World} {b : Nat} {t : TypeId} {cs : Array Value} (h : Blk w b t cs) (o n : Nat) (hn : o + n ≤ cs.size) : w.there b o n := fun j hj =>
 ⟨by rw [h.cell, Array.getElem?_eq_getElem (by omega)]; rfl, h.frozen _⟩
theorem wp_store9 {op : Oper} {a : Act} {w : World} {K : Act → World → Prop} {Q : Exit → Act → World → Prop} (T : TypeId) (x y : Operand) (ho : op.op = .store T x y) {b o : Nat} {t : TypeId} {cs cs' : Array Value} (us : List Int)
 (h : Blk w b t cs) (hl : o + us.length ≤ cs.size) (hT : (Tryz.prog.info? T).map (·.size) = some us.length) (hx : a.eval x = .pointer (some ⟨b, o, none⟩)) (hy : a.eval y = .agg (ic9 us).toArray) (hcs : cs'.toList = cs.toList.take o ++ ic9 us ++ cs.toList.drop (o + us.length))
 (hK : ∀ w', Blk w' b t cs' → w.grownBy w' (some b) → K (a.put op.dst undef) w') : op.wp Tryz.prog a w K Q := by
 obtain ⟨cs2, h1, h2⟩ := Blk.setCells (ic9 us) o w cs h (by rw [ic9_len]; exact hl)
 have e : cs2 = cs' := by
  apply Array.toList_inj.1
  rw [h2, hcs, ic9_len]
 rw [e] at h1
 exact wp_store_mid T x y ho b o (ic9 us).toArray hx hy (there_mid h o _ (by rw [List.size_toArray, ic9_len]; exact hl)) (by rw [List.size_toArray, ic9_len]; exact hT) (all_oneCell_toArray (ic9_one us)) (hK _ h1 (grown_setCells b (ic9 us) o w))
theorem key9 {w : World} {b : Nat} {t : TypeId} {a c4 c5 c6 c7 c8 c9 c10 : Value} {x0 x1 x2 : Int} (h : Blk w b t #[a, .int .i64 x0, .int .i64 x1, .int .i64 x2, c4, c5, c6, c7, c8, c9, c10]) : w.rangeAt b 1 (ic9 [x0, x1, x2]) := fun j u hu => by
 rw [h.cell (1 + j)]
 match j, hu with
 | 0, hu => exact hu
 | 1, hu => exact hu
 | 2, hu => exact hu
 | j + 3, hu => cases hu
def F7 (w : World) (f : Nat) (x0 x1 x2 x3 x4 x5 x6 : Int) : Prop := w.cell? ⟨f, 0, none⟩ = some (.int .i64 x0) ∧ w.cell? ⟨f, 1, none⟩ = some (.int .i64 x1) ∧ w.cell? ⟨f, 2, none⟩ = some (.int .i64 x2) ∧ w.cell? ⟨f, 3, none⟩ = some (.int .i64 x3) ∧ w.cell? ⟨f, 4, none⟩ = some (.int .i64 x4) ∧ w.cell? ⟨f, 5, none⟩ = some (.int .i64 x5) ∧ w.cell? ⟨f, 6, none⟩ = some (.int .i64 x6)
theorem F7.keep {w w' : World} {f : Nat} {x0 x1 x2 x3 x4 x5 x6 : Int} (h : F7 w f x0 x1 x2 x3 x4 x5 x6) (hk : w'.heap[f]? = w.heap[f]?) : F7 w' f x0 x1 x2 x3 x4 x5 x6 := by
 obtain ⟨a, b, c, d, e, g, i⟩ := h
 have k (o : Nat) : w'.cell? ⟨f, o, none⟩ = w.cell? ⟨f, o, none⟩ := World.cell?_of_block (a := ⟨f, o, none⟩) hk
 exact ⟨(k 0).trans a, (k 1).trans b, (k 2).trans c, (k 3).trans d, (k 4).trans e, (k 5).trans g, (k 6).trans i⟩
theorem F7.of {w : World} {base d : Nat} {F : Option Addr} {x0 x1 x2 x3 x4 x5 x6 : Int} (h : w.ownsRow base 3 1 (.slice F 7 d) 7 (ic9 [x0, x1, x2, x3, x4, x5, x6])) : ∃ f, F = some ⟨f, 0, none⟩ ∧ base ≤ f ∧ f < w.heap.size ∧ F7 w f x0 x1 x2 x3 x4 x5 x6 := by
 obtain ⟨g, hA, h1, h2, _⟩ := own_some h (by decide)
 obtain ⟨b, hA2, _, hr⟩ := own_range h (by decide)
 have hgb : g = b := by rw [hA] at hA2; injection hA2 with e; injection e
 subst hgb
 have k (o : Nat) (u : Value) (hu : (ic9 [x0, x1, x2, x3, x4, x5, x6])[o]? = some u) : w.cell? ⟨g, o, none⟩ = some u := by have := hr o u hu; rwa [Nat.zero_add] at this
 exact ⟨g, hA, h1, h2, k 0 _ rfl, k 1 _ rfl, k 2 _ rfl, k 3 _ rfl, k 4 _ rfl, k 5 _ rfl, k 6 _ rfl⟩
theorem rparse_c (A : Option Addr) (n c : Nat) (b : List UInt8) (w : World) (h : Bts w 0 w.heap.size A n b) (hnc : n ≤ c) (hn : n ≤ 100000) :
 Calls Tryz.prog 38 #[.slice A n c] w (PRef w b) := by
 have HR := hid h
 have HN := hid hn
 have HNC := hid hnc
 have HBL : Hid (b.length = n) := hid h.len
 have HRL := hid (rd_le b)
 have hread := refRead_c A n c b w 0 w.heap.size h (by omega)
 obtain ⟨k0, hk0⟩ : ∃ k, (rd b).2 = k := ⟨_, rfl⟩
 obtain ⟨cnt, hcnt⟩ : ∃ k, (rd b).1 = k := ⟨_, rfl⟩
 rw [hk0, hcnt] at hread
 rw [hk0] at HRL
 have HK0 := hid hk0
 have HCN := hid hcnt
 clear h hn hnc hk0 hcnt
 rcases Nat.eq_zero_or_pos k0 with hz | hz
 · have HF := hid (refP_head (b := b) (.inl (by rw [HK0.out]; exact hz)))
   subst hz
   go_enter Tryz.func38, Tryz.ntmps38
   go_wp2_with fail
   refine hread.mono ?_
   rintro e w1 ⟨rfl, rfl⟩
   go_wp2
   go_ret2
   exact PRef.no HF.out (Below.refl _ _)
 have z0 : ((k0 : Int) == 0) = false := by simp; omega
 have z1 : ¬ (k0 : Int) = 0 := by omega
 have z2 : ¬ k0 = 0 := by omega
 have HZ := hid z2
 by_cases hbig : 1000 < cnt
 · have HF := hid (refP_head (b := b) (.inr (by rw [HCN.out]; exact hbig)))
   have s1 : decide ((1000 : Int) < (cnt : Int)) = true := decide_eq_true (by omega)
   have s2 : decide (1000 < cnt) = true := decide_eq_true hbig
   clear hz hbig
   go_enter Tryz.func38, Tryz.ntmps38
   go_wp2_with fail
   refine hread.mono ?_
   rintro e w1 ⟨rfl, rfl⟩
   go_wp2
   go_ret2
   exact PRef.no HF.out (Below.refl _ _)
 have s1 : decide ((1000 : Int) < (cnt : Int)) = false := decide_eq_false (by omega)
 have s2 : decide (1000 < cnt) = false := decide_eq_false hbig
 have HCL : Hid (cnt ≤ 1000) := hid (by omega)
 have HKN : Hid (k0 ≤ n) := hid (by have := HRL.out; have := HBL.out; omega)
 clear hz hbig
 go_enter Tryz.func38, Tryz.ntmps38
 go_wp2_with fail
 refine hread.mono ?_
 rintro e w1 ⟨rfl, rfl⟩
 rename World => w
 clear hread
 go_wp2_with (refine wpList_cutB rfl _ _ rfl rfl rfl rfl HKN.out HNC.out HR.out ?_)
 intro A1 hb1
 have HB1 := hid hb1
 have HLN1 : Hid (n - k0 ≤ 100000 ∧ n - k0 ≤ c - k0) := hid (by have := HN.out; have := HNC.out; omega)
 obtain ⟨n1, hn1⟩ : ∃ x, x = n - k0 := ⟨_, rfl⟩
 obtain ⟨c1, hc1⟩ : ∃ x, x = c - k0 := ⟨_, rfl⟩
 rw [← hn1] at HB1 HLN1 ⊢
 rw [← hc1] at HLN1 ⊢
 clear hb1 hn1 hc1
 go_wp2_with fail
 clear s1 s2 z0 z1 z2
 go_loopg [0, 6] cnt (fun kk bv lv wr => ∃ (xs : List Bb) (r : List UInt8) (A' : Option Addr) (n' c' : Nat) (B : Option Addr) (d : Nat), bv = .slice A' n' c' ∧ lv = .slice B xs.length d ∧ Hid (kk = cnt - xs.length) ∧ Hid (xs.length ≤ cnt) ∧ Hid (rdBls xs.length (b.drop k0) = some (xs, r)) ∧ Hid (Bts w 0 w.heap.size A' n' r) ∧ Hid (n' ≤ 100000 ∧ n' ≤ c') ∧ Hid (BRow 90 wr w.heap.size B d xs) ∧ Hid (Below w.heap.size w wr) ∧ Hid (∀ x ∈ xs, x.nm.length ≤ 100000))
 case atStart => exact ⟨[], b.drop k0, A1, n1, c1, none, 0, rfl, rfl, hid rfl, hid (Nat.zero_le _), hid rfl, HB1, HLN1, hid (BRow.nil _ _ _), hid (Below.refl _ _), hid (fun x hx => by cases hx)⟩
 case round =>
 obtain ⟨xs, r, A', n', c', B, d, rfl, rfl, hgk, hj, hX, hBt, hLn, hRow, hB, hNm⟩ := hrel
 rename World => wr
 clear HB1 HLN1
 have HXL : Hid (xs.length ≤ 1000) := hid (by have := hj.out; have := HCL.out; omega)
 obtain ⟨j, hje⟩ : ∃ j, j = xs.length := ⟨_, rfl⟩
 have HJE := hid hje
 have hRow2 : Hid (wr.ownsRow w.heap.size 90 11 (.slice B j d) j (bcs xs)) := hid (by rw [hje]; exact hRow.out)
 rw [← hje] at hgk hj hX HXL ⊢
 have u1 : IntKind.u64.wrap (j : Int) = (j : Int) := IntWalk.u64_in _ (by have := HXL.out; omega)
 rcases Nat.lt_or_ge j cnt with hlt | hge
 · have j2 : (j : Int) < (cnt : Int) := by omega
   have j3 : decide ((j : Int) < (cnt : Int)) = true := decide_eq_true j2
   have j4 : decide (j < cnt) = true := decide_eq_true hlt
   have HJ := hid hlt
   have HSTOP := hid (fun hnone => refP_stop (b := b) (a := j) (xs := xs) (r := r) (by rw [HK0.out]; exact HZ.out) (by rw [HCN.out]; exact HCL.out) (by rw [HCN.out]; exact HJ.out) (by rw [HK0.out]; exact hX.out) hnone)
   have HRLEN : Hid (r.length = n') := hid hBt.out.len
   have hread := refRead_c A' n' c' r wr 0 w.heap.size (hBt.out.below hB.out (nl _)) (by have := hLn.out; omega)
   have HRD := hid (rd_le r)
   have HSZ := hid (rd_lt r)
   obtain ⟨k, hk⟩ : ∃ k, (rd r).2 = k := ⟨_, rfl⟩
   obtain ⟨q, hq⟩ : ∃ q, (rd r).1 = q := ⟨_, rfl⟩
   rw [hk, hq] at hread
   rw [hk] at HRD
   rw [hq] at HSZ
   have HKE := hid hk
   have HQE := hid hq
   clear hlt hje hk hq hRow
   rcases Nat.eq_zero_or_pos k with hz | hz
   · have HF := hid (HSTOP.out (rdBl_no (by unfold rdT; rw [HKE.out, if_pos (.inl hz)])))
     subst hz
     go_wp2_with fail
     refine hread.mono ?_
     rintro e w1 ⟨rfl, rfl⟩
     go_wp2
     go_ret2
     exact PRef.no HF.out hB.out
   have z0 : ((k : Int) == 0) = false := by simp; omega
   have z1 : ¬ (k : Int) = 0 := by omega
   have z2 : ¬ k = 0 := by omega
   have HZK := hid z2
   have s0 : wrap64 ((n' : Int) - (k : Int)) = ((n' - k : Nat) : Int) := by have := HRD.out; have := HRLEN.out; have := hLn.out; unfold wrap64; omega
   have s1 : IntKind.u64.wrap ((n' - k : Nat) : Int) = ((n' - k : Nat) : Int) := IntWalk.u64_in _ (by have := hLn.out; omega)
   obtain ⟨m, hm⟩ : ∃ m, m = n' - k := ⟨_, rfl⟩
   rw [← hm] at s0 s1
   have HME : Hid (m = n' - k ∧ m ≤ 100000) := hid ⟨hm, by have := hLn.out; omega⟩
   have HDL : Hid ((r.drop k).length = m) := hid (by rw [List.length_drop, HRLEN.out, hm])
   clear hz hm
   by_cases hlong : m < q
   · have s2 : decide ((m : Int) < (q : Int)) = true := decide_eq_true (by omega)
     have s3 : decide (m < q) = true := decide_eq_true hlong
     have HF := hid (HSTOP.out (rdBl_no (by unfold rdT; rw [HKE.out, HQE.out, if_pos (.inr (by rw [HDL.out]; exact hlong))])))
     clear hlong
     go_wp2_with fail
     refine hread.mono ?_
     rintro e w1 ⟨rfl, rfl⟩
     go_wp2
     go_ret2
     exact PRef.no HF.out hB.out
   have s2 : decide ((m : Int) < (q : Int)) = false := decide_eq_false (by omega)
   have s3 : decide (m < q) = false := decide_eq_false hlong
   have HQM : Hid (q ≤ m) := hid (by omega)
   clear hlong
   obtain ⟨nm, hnm⟩ : ∃ nm, nm = (r.drop k).take q := ⟨_, rfl⟩
   obtain ⟨r1, hr1⟩ : ∃ r1, r1 = r.drop (k + q) := ⟨_, rfl⟩
   have HT : Hid (rdT r = some (nm, r1)) := hid (by unfold rdT; rw [HKE.out, HQE.out, if_neg (fun h => h.elim HZK.out fun h => absurd h (by rw [HDL.out]; have := HQM.out; omega)), hnm, hr1, List.drop_drop])
   have HNML : Hid (nm.length ≤ 100000) := hid (by rw [hnm, List.length_take, HDL.out]; have := HME.out.2; omega)
   have HNM := hid hnm
   have HR1 := hid hr1
   clear hnm hr1
   have c0 : wrap64 (q : Int) = (q : Int) := by have := HQM.out; have := HME.out; unfold wrap64; omega
   have c1 : IntKind.i64.wrap (q : Int) = (q : Int) := IntWalk.i64_in _ (by have := HQM.out; have := HME.out; omega)
   have c2 : wrap64 ((k : Int) + (q : Int)) = ((k + q : Nat) : Int) := by have := HQM.out; have := HME.out; have := hLn.out; have := HRD.out; have := HRLEN.out; unfold wrap64; omega
   have HKQ : Hid (k ≤ k + q ∧ k + q ≤ n' ∧ k + q - k = q) := hid (by have := HQM.out; have := HME.out; have := hLn.out; have := HRD.out; have := HRLEN.out; omega)
   have HPQ := hid c2
   have hBw := hid (hBt.out.below hB.out (nl _))
   go_wp2_with fail
   refine hread.mono ?_
   rintro e w1 ⟨rfl, rfl⟩
   rename World => wr
   clear hread
   go_wp2_with (refine wpList_cutLH rfl _ _ _ rfl rfl rfl rfl rfl HPQ.out HKQ.out.1 HKQ.out.2.1 hLn.out.2 hBw.out ?_)
   intro A2 hb2
   try rw [HKQ.out.2.2] at hb2
   try rw [HKQ.out.2.2]
   rw [← HNM.out] at hb2
   have hcv := fun cc => run_str (P := Tryz.prog) (c := cc) 51 9 5 Tryz.underlying51 Tryz.underlying5 Tryz.underlying9 hb2
   have hk2 := Blk.new wr 90 #[.string (str nm), .int .i64 0, .int .i64 0, .int .i64 0, .int .i64 0, .int .i64 0, .int .i64 0, .int .i64 0, .int .i64 0, .int .i64 0, .int .i64 0]
   have hb02 : Below wr.heap.size wr (wr.alloc (.cells #[.string (str nm), .int .i64 0, .int .i64 0, .int .i64 0, .int .i64 0, .int .i64 0, .int .i64 0, .int .i64 0, .int .i64 0, .int .i64 0, .int .i64 0] 90)) := (Below.refl wr.heap.size wr).alloc (nl _) _
   obtain ⟨w2, hw2⟩ : ∃ w2, w2 = wr.alloc (.cells #[.string (str nm), .int .i64 0, .int .i64 0, .int .i64 0, .int .i64 0, .int .i64 0, .int .i64 0, .int .i64 0, .int .i64 0, .int .i64 0, .int .i64 0] 90) := ⟨_, rfl⟩
   rw [← hw2] at hk2 hb02
   have HW2 := hid hw2
   obtain ⟨tb, htb⟩ : ∃ tb, tb = wr.heap.size := ⟨_, rfl⟩
   rw [← htb] at hk2 hb02
   have HTBE := hid htb
   clear s0 s1 s2 s3 c2
   have HT2 := hid hk2
   have HS2 : Hid (tb + 1 ≤ w2.heap.size) := hid hk2.lt
   have HTB : Hid (w.heap.size ≤ tb) := hid (by rw [htb]; exact hB.out.size)
   have HB2 : Hid (Below w.heap.size w w2) := hid (hB.out.trans (hb02.mono HTB.out))
   have HRW2 := hid (own_keep hRow2.out fun g hg => hb02.block g (by have := own_lt hRow2.out g hg; omega))
   have HRWL : Hid (∀ g, B.map (·.block) = some g → g < tb) := hid (fun g hg => by have := own_lt hRow2.out g hg; omega)
   have hBw2 := hid (hBt.out.below HB2.out (nl _))
   clear hk2 hb02 htb hBw hRow2 hB hw2
   go_wp2_with (refine wpList_cutB rfl _ _ rfl rfl rfl HPQ.out HKQ.out.2.1 hLn.out.2 (by rw [← HW2.out]; exact hBw2.out) ?_)
   intro A3 hb3
   clear hb2 hcv
   rw [← HW2.out] at hb3 ⊢
   rw [← HTBE.out]
   clear HTBE HW2
   rw [← HR1.out] at hb3
   have HB3 : Hid (Bts w 0 w.heap.size A3 (n' - (k + q)) r1) := hid (hb3.keep fun g _ hg => (HB2.out.block g hg).symm)
   have HLN3 : Hid (n' - (k + q) ≤ 100000 ∧ n' - (k + q) ≤ c' - (k + q)) := hid (by have := hLn.out; omega)
   obtain ⟨n3, hn3⟩ : ∃ x, x = n' - (k + q) := ⟨_, rfl⟩
   obtain ⟨c3, hc3⟩ : ∃ x, x = c' - (k + q) := ⟨_, rfl⟩
   rw [← hn3] at HB3 HLN3 ⊢
   rw [← hc3] at HLN3 ⊢
   clear hb3 hn3 hc3 hBw2 c0 c1
   go_wp2_with fail
   clear z0 z1 z2 u1 j2 j3 j4
   go_loopg [0, 10] 7 (fun k2 bv fv wq => ∃ (i : Nat) (ns : List Int) (s : List UInt8) (A' : Option Addr) (n' c' : Nat) (F : Option Addr) (e : Nat), bv = .slice A' n' c' ∧ fv = .slice F i e ∧ Hid (k2 = 7 - i) ∧ Hid (i ≤ 7) ∧ Hid (rdIs i r1 = some (ns, s)) ∧ Hid (Bts w 0 w.heap.size A' n' s) ∧ Hid (n' ≤ 100000 ∧ n' ≤ c') ∧ Hid (wq.ownsRow (tb + 1) 3 1 (.slice F i e) i (ic9 ns)) ∧ Hid (Below (tb + 1) w2 wq))
   case atStart => exact ⟨0, [], r1, A3, n3, c3, none, 0, rfl, rfl, hid rfl, hid (Nat.zero_le _), hid rfl, HB3, HLN3, hid (own_nilrow _ _ _ _), hid (Below.refl _ _)⟩
   case round =>
   obtain ⟨i, ns, s, A4, n4, c4, F, e4, rfl, rfl, hgk2, hi, hI, hBt4, hLn4, hF, hB4⟩ := hrel
   rename World => wq
   clear HB3 HLN3
   have HB24 : Hid (Below w.heap.size w wq) := hid (HB2.out.trans (hB4.out.mono (by have := HTB.out; omega)))
   rcases Nat.lt_or_ge i 7 with hlt | hge
   · have i2 : (i : Int) < 7 := by omega
     have i3 : decide ((i : Int) < 7) = true := decide_eq_true i2
     have i4 : decide (i < 7) = true := decide_eq_true hlt
     have HI7 := hid hlt
     have hBw := hid (hBt4.out.below HB24.out (nl _))
     have hread := refRead_c A4 n4 c4 s wq 0 w.heap.size hBw.out (by have := hLn4.out; omega)
     have HRD4 := hid (rd_le s)
     have HRL4 : Hid (s.length = n4) := hid hBt4.out.len
     have HUL := hid (rd_lt s)
     obtain ⟨k4, hk4⟩ : ∃ k, (rd s).2 = k := ⟨_, rfl⟩
     obtain ⟨u, hu⟩ : ∃ u, (rd s).1 = u := ⟨_, rfl⟩
     rw [hk4, hu] at hread
     rw [hk4] at HRD4
     rw [hu] at HUL
     have HK4 := hid hk4
     have HU := hid hu
     clear hlt hk4 hu
     rcases Nat.eq_zero_or_pos k4 with hz | hz
     · have HF := hid (HSTOP.out (rdBl_no2 HT.out (rdIs_stop i 7 r1 s ns hI.out (by unfold rdI; rw [HK4.out, if_pos hz]) HI7.out)))
       subst hz
       go_wp2_with fail
       refine hread.mono ?_
       rintro e w1 ⟨rfl, rfl⟩
       go_wp2
       go_ret2
       exact PRef.no HF.out HB24.out
     have z0 : ((k4 : Int) == 0) = false := by simp; omega
     have z1 : ¬ (k4 : Int) = 0 := by omega
     have z2 : ¬ k4 = 0 := by omega
     have HKN4 : Hid (k4 ≤ n4) := hid (by have := HRD4.out; have := HRL4.out; omega)
     obtain ⟨x, hx⟩ : ∃ x, unfold_ u = x := ⟨_, rfl⟩
     obtain ⟨s2, hs2⟩ : ∃ s2, s.drop k4 = s2 := ⟨_, rfl⟩
     have HXE := hid hx
     have HI1 : Hid (rdIs (i + 1) r1 = some (ns ++ [x], s2)) := hid (rdIs_snoc i r1 s s2 ns x hI.out (by unfold rdI; rw [HK4.out, HU.out, if_neg z2, hx, hs2]))
     have HCAP : Hid (i + 1 ≤ 1000) := hid (by have := HI7.out; omega)
     have HSQ : Hid (tb + 1 ≤ wq.heap.size) := hid (by have := hB4.out.size; have := HS2.out; omega)
     have HF1 := hF
     clear hx hz
     go_wp2_with fail
     refine hread.mono ?_
     rintro e w1 ⟨rfl, rfl⟩
     rename World => wq
     go_wp2_with fail
     refine (refUnfolded_c u _ HUL.out).mono ?_
     rintro e w1 ⟨rfl, rfl⟩
     rename World => wq
     rw [HXE.out]
     clear hread
     go_wp2_with (at_builtin; refine wpList_app1 _ rfl _ _ 76 _ rfl (tb + 1) 3 (.int .i64 0) 8 Tryz.underlying76 Tryz.info9 rfl _ _ _ _ rfl HF1.out _ rfl rfl (by have := HCAP.out; omega) (by have := HCAP.out; unfold maxLen; omega) HSQ.out ?_)
     intro A5 c5 w5 hc5 ho5 hg5 hb5 hz5
     have HO5 : Hid (w5.ownsRow (tb + 1) 3 1 (.slice A5 (i + 1) c5) (i + 1) (ic9 (ns ++ [x]))) := hid (by rw [ic9_app]; exact ho5)
     have HB5 := hid (hB4.out.trans hb5)
     have HB25 : Hid (Below w.heap.size w w5) := hid (HB24.out.trans (hb5.mono (by have := HTB.out; omega)))
     have hBw5 := hid (hBt4.out.below HB25.out (nl _))
     clear hc5 ho5 hg5 hb5 hz5 hBw z0 z1 z2
     go_wp2_with (refine wpList_cutB rfl _ _ rfl rfl rfl rfl HKN4.out hLn4.out.2 hBw5.out ?_)
     intro A6 hb6
     try rw [hs2] at hb6
     have HB6 : Hid (Bts w 0 w.heap.size A6 (n4 - k4) s2) := hid (hb6.keep fun g _ hg => (HB25.out.block g hg).symm)
     have HLN6 : Hid (n4 - k4 ≤ 100000 ∧ n4 - k4 ≤ c4 - k4) := hid (by have := hLn4.out; omega)
     clear hb6
     go_wp2_with fail
     go_roundg (7 - (i + 1))
     case measure => exact rs_meas hgk2.out HI7.out
     case rel => exact ⟨i + 1, ns ++ [x], s2, A6, n4 - k4, c4 - k4, A5, c5, rfl, rfl, hid rfl, hid HI7.out, HI1, HB6, HLN6, HO5, HB5⟩
   have hi7 : i = 7 := by have := hi.out; omega
   subst hi7
   obtain ⟨x0, x1, x2, x3, x4, x5, x6, rfl⟩ := list7 (rdIs_back 7 r1 s ns hI.out).2.1
   obtain ⟨f, rfl, hf1, hf2, hf7⟩ := F7.of hF.out
   have HY := hid (rdBl_yes HT.out hI.out)
   have HX2 := hid (rdBls_snoc hX.out HY.out)
   have HFT : Hid (f ≠ tb) := hid (by omega)
   have HFG : Hid (tb < f ∧ f < wq.heap.size) := hid ⟨hf1, hf2⟩
   have HF7 := hid hf7
   have HT4 := hid (HT2.out.keep (hB4.out.block tb (Nat.lt_succ_self tb)))
   have HRW4 := hid (own_keep HRW2.out fun g hg => hB4.out.block g (Nat.lt_succ_of_lt (HRWL.out g hg)))
   clear hge hi hgk2 hf1 hf2 hf7 hF hI
   go_wp2_with fail
   have hdr : Below wq.heap.size wq wq.drew := (Below.refl _ _).drew
   have HT5 := hid (HT4.out.keep (hdr.block _ HT4.out.lt))
   have HF5 := hid (HF7.out.keep (hdr.block _ HFG.out.2))
   have HRW5 := hid (own_keep HRW4.out fun g hg => hdr.block g (own_lt HRW4.out g hg))
   have HB5 : Hid (Below w.heap.size w wq.drew) := hid (HB24.out.trans (hdr.mono HB24.out.size))
   clear hdr HT4 HF7 HRW4 HB24
   refine wp_region_held_drew (S := fun wx => F7 wx f x0 x1 x2 x3 x4 x5 x6 ∧ True) (by kernel_rfl) ⟨HF5.out, trivial⟩ (fun HS => ?_)
   refine qT 0 ?vp0 ?yp0 HS ?rp0
   case yp0 => refine qI fun wS hSw => ?_; go_simp; try with_reducible rfl
   try simp only [Act.put, zA]
   refine qT 1 ?vp1 ?yp1 HS ?rp1
   case yp1 => refine qI fun wS hSw => ?_; go_simp; try with_reducible rfl
   try simp only [Act.put, zA]
   refine qT 2 ?vp2 ?yp2 HS ?rp2
   case yp2 =>
    refine qI fun wS hSw => ?_
    obtain ⟨f0, f1, f2, f3, f4, f5, f6⟩ := hSw.1
    go_simp
    try with_reducible rfl
   try simp only [Act.put, zA]
   refine qT 3 ?vp3 ?yp3 HS ?rp3
   case yp3 => refine qI fun wS hSw => ?_; go_simp; try with_reducible rfl
   try simp only [Act.put, zA]
   refine qT 4 ?vp4 ?yp4 HS ?rp4
   case yp4 => refine qI fun wS hSw => ?_; go_simp; try with_reducible rfl
   try simp only [Act.put, zA]
   refine qT 5 ?vp5 ?yp5 HS ?rp5
   case yp5 =>
    refine qI fun wS hSw => ?_
    obtain ⟨f0, f1, f2, f3, f4, f5, f6⟩ := hSw.1
    go_simp
    try with_reducible rfl
   try simp only [Act.put, zA]
   refine qT 6 ?vp6 ?yp6 HS ?rp6
   case yp6 => refine qI fun wS hSw => ?_; go_simp; try with_reducible rfl
   try simp only [Act.put, zA]
   refine qT 7 ?vp7 ?yp7 HS ?rp7
   case yp7 => refine qI fun wS hSw => ?_; go_simp; try with_reducible rfl
   try simp only [Act.put, zA]
   refine qT 8 ?vp8 ?yp8 HS ?rp8
   case yp8 =>
    refine qI fun wS hSw => ?_
    obtain ⟨f0, f1, f2, f3, f4, f5, f6⟩ := hSw.1
    go_simp
    try with_reducible rfl
   try simp only [Act.put, zA]
   refine qT 9 ?vp9 ?yp9 HS ?rp9
   case yp9 =>
    refine qI fun wS hSw => ?_
    refine Eq.trans (exec_build 54 #[(0, .tmp 83), (1, .tmp 86), (2, .tmp 89)] ?_ #[(0, .int .i64 x0), (1, .int .i64 x1), (2, .int .i64 x2)] ?_ _ (built_k9 x0 x1 x2)) ?_
    · rfl
    · simp only [List.map_toArray, List.map_cons, List.map_nil]; rfl
    · with_reducible rfl
   try simp only [Act.put, zA]
   refine qT 10 ?vp10 ?yp10 HS ?rp10
   case yp10 => refine qI fun wS hSw => ?_; go_simp; try with_reducible rfl
   try simp only [Act.put, zA]
   refine qR 11 fun K hK => ?_
   refine wp_store9 54 _ _ rfl (o := 1) [x0, x1, x2] HT5.out (by show 1 + 3 ≤ 11; decide) Tryz.sizeK9 rfl rfl (cs' := #[.string (str nm), .int .i64 x0, .int .i64 x1, .int .i64 x2, .int .i64 0, .int .i64 0, .int .i64 0, .int .i64 0, .int .i64 0, .int .i64 0, .int .i64 0]) rfl ?_
   intro w6 hk6 hg6
   have HT6 := hid hk6
   have HF6 := hid (HF5.out.keep (hg6.block f HFG.out.2 (fun e => by injection e with e; exact HFT.out e)))
   have HF6L : Hid (f < w6.heap.size) := hid (Nat.lt_of_lt_of_le HFG.out.2 hg6.size)
   have HRW6 := hid (own_keep HRW5.out fun g hg => hg6.block g (own_lt HRW5.out g hg) (fun e => by injection e with e; have := HRWL.out g hg; omega))
   have HB6 : Hid (Below w.heap.size w w6) := hid (HB5.out.grown hg6 HB5.out.size (fun g hg => by injection hg with hg; have := HTB.out; omega))
   clear hk6 hg6
   refine hK.out _ _ ⟨HF6.out, trivial⟩ (fun HS => ?_)
   clear hK K
   try simp only [Act.put]
   refine qD ?_
   clear HS
   have hz4 : w6.cell? ⟨tb, 4, none⟩ = some (.int .i64 0) := (HT6.out.cell 4).trans rfl
   have hy4 : w6.frozen? ⟨tb, 4, none⟩ = false := HT6.out.frozen 4
   obtain ⟨f0, f1, f2, f3, f4, f5, f6⟩ := HF6.out
   have HT7 : Hid (Blk (w6.setCell ⟨tb, 4, none⟩ (.int .i64 x3)) tb 90 #[.string (str nm), .int .i64 x0, .int .i64 x1, .int .i64 x2, .int .i64 x3, .int .i64 0, .int .i64 0, .int .i64 0, .int .i64 0, .int .i64 0, .int .i64 0]) := hid (HT6.out.store 4 _)
   have hg67 := grown_setCell w6 tb 4 (.int .i64 x3)
   have HF7 := hid (HF6.out.keep (hg67.block f HF6L.out (fun e => by injection e with e; exact HFT.out e)))
   have HRW7 := hid (own_keep HRW6.out fun g hg => hg67.block g (own_lt HRW6.out g hg) (fun e => by injection e with e; have := HRWL.out g hg; omega))
   have HB7 : Hid (Below w.heap.size w (w6.setCell ⟨tb, 4, none⟩ (.int .i64 x3))) := hid (HB6.out.grown hg67 HB6.out.size (fun g hg => by injection hg with hg; have := HTB.out; omega))
   have HF7L : Hid (f < (w6.setCell ⟨tb, 4, none⟩ (.int .i64 x3)).heap.size) := hid (Nat.lt_of_lt_of_le HF6L.out hg67.size)
   clear hg67
   go_wp2_with fail
   clear hz4 hy4 f0 f1 f2 f3 f4 f5 f6
   generalize w6.setCell ⟨tb, 4, none⟩ (.int .i64 x3) = w7 at *
   have hdr : Below w7.heap.size w7 w7.drew := (Below.refl _ _).drew
   have HT8 := hid (HT7.out.keep (hdr.block _ HT7.out.lt))
   have HF8 := hid (HF7.out.keep (hdr.block _ HF7L.out))
   have HF8L : Hid (f < w7.drew.heap.size) := HF7L
   have HRW8 := hid (own_keep HRW7.out fun g hg => hdr.block g (own_lt HRW7.out g hg))
   have HB8 : Hid (Below w.heap.size w w7.drew) := hid (HB7.out.trans (hdr.mono HB7.out.size))
   clear hdr HT7 HF7 HRW7 HB7
   refine wp_region_held_drew (S := fun wx => F7 wx f x0 x1 x2 x3 x4 x5 x6 ∧ wx.rangeAt tb 1 (ic9 [x0, x1, x2])) (by kernel_rfl) ⟨HF8.out, key9 HT8.out⟩ (fun HS => ?_)
   refine qT 0 ?vq0 ?yq0 HS ?rq0
   case yq0 => refine qI fun wS hSw => ?_; go_simp; try with_reducible rfl
   try simp only [Act.put, zA]
   refine qT 1 ?vq1 ?yq1 HS ?rq1
   case yq1 =>
    refine qI fun wS hSw => ?_
    refine Eq.trans (exec_load_mid 54 (.tmp 96) ?_ tb 1 ?_ (ic9 [x0, x1, x2]) _ ?_ Tryz.underlying54 rfl Tryz.sizeK9) ?_
    · rfl
    · rfl
    · exact hSw.2
    · with_reducible rfl
   try simp only [Act.put, zA]
   refine qT 2 ?vq2 ?yq2 HS ?rq2
   case yq2 => refine qI fun wS hSw => ?_; go_simp; try with_reducible rfl
   try simp only [Act.put, zA]
   refine qT 3 ?vq3 ?yq3 HS ?rq3
   case yq3 => refine qI fun wS hSw => ?_; go_simp; try with_reducible rfl
   try simp only [Act.put, zA]
   refine qT 4 ?vq4 ?yq4 HS ?rq4
   case yq4 =>
    refine qI fun wS hSw => ?_
    obtain ⟨f0, f1, f2, f3, f4, f5, f6⟩ := hSw.1
    go_simp
    try with_reducible rfl
   try simp only [Act.put, zA]
   refine qT 5 ?vq5 ?yq5 HS ?rq5
   case yq5 => refine qI fun wS hSw => ?_; go_simp; try with_reducible rfl
   try simp only [Act.put, zA]
   refine qT 6 ?vq6 ?yq6 HS ?rq6
   case yq6 => refine qI fun wS hSw => ?_; go_simp; try with_reducible rfl
   try simp only [Act.put, zA]
   refine qT 7 ?vq7 ?yq7 HS ?rq7
   case yq7 =>
    refine qI fun wS hSw => ?_
    obtain ⟨f0, f1, f2, f3, f4, f5, f6⟩ := hSw.1
    go_simp
    try with_reducible rfl
   try simp only [Act.put, zA]
   refine qT 8 ?vq8 ?yq8 HS ?rq8
   case yq8 =>
    refine qI fun wS hSw => ?_
    refine Eq.trans (exec_build 88 #[(0, .tmp 97), (1, .tmp 100), (2, .tmp 103)] ?_ #[(0, .agg #[.int .i64 x0, .int .i64 x1, .int .i64 x2]), (1, .int .i64 x4), (2, .int .i64 x5)] ?_ _ (built_p9 x0 x1 x2 x4 x5)) ?_
    · rfl
    · simp only [List.map_toArray, List.map_cons, List.map_nil]; rfl
    · with_reducible rfl
   try simp only [Act.put, zA]
   refine qT 9 ?vq9 ?yq9 HS ?rq9
   case yq9 => refine qI fun wS hSw => ?_; go_simp; try with_reducible rfl
   try simp only [Act.put, zA]
   refine qR 10 fun K hK => ?_
   refine wp_store9 88 _ _ rfl (o := 5) [x0, x1, x2, x4, x5] HT8.out (by show 5 + 5 ≤ 11; decide) Tryz.sizeP9 rfl rfl (cs' := #[.string (str nm), .int .i64 x0, .int .i64 x1, .int .i64 x2, .int .i64 x3, .int .i64 x0, .int .i64 x1, .int .i64 x2, .int .i64 x4, .int .i64 x5, .int .i64 0]) rfl ?_
   intro w9 hk9 hg9
   have HT9 := hid hk9
   have HF9 := hid (HF8.out.keep (hg9.block f HF8L.out (fun e => by injection e with e; exact HFT.out e)))
   have HRW9 := hid (own_keep HRW8.out fun g hg => hg9.block g (own_lt HRW8.out g hg) (fun e => by injection e with e; have := HRWL.out g hg; omega))
   have HB9 : Hid (Below w.heap.size w w9) := hid (HB8.out.grown hg9 HB8.out.size (fun g hg => by injection hg with hg; have := HTB.out; omega))
   clear hg9
   refine hK.out _ _ ⟨HF9.out, key9 hk9⟩ (fun HS => ?_)
   clear hK K
   try simp only [Act.put]
   refine qD ?_
   clear HS
   have hz4 : w9.cell? ⟨tb, 10, none⟩ = some (.int .i64 0) := (HT9.out.cell 10).trans rfl
   have hy4 : w9.frozen? ⟨tb, 10, none⟩ = false := HT9.out.frozen 10
   obtain ⟨f0, f1, f2, f3, f4, f5, f6⟩ := HF9.out
   have HTA : Hid (Blk (w9.setCell ⟨tb, 10, none⟩ (.int .i64 x6)) tb 90 #[.string (str nm), .int .i64 x0, .int .i64 x1, .int .i64 x2, .int .i64 x3, .int .i64 x0, .int .i64 x1, .int .i64 x2, .int .i64 x4, .int .i64 x5, .int .i64 x6]) := hid (HT9.out.store 10 _)
   have hg67 := grown_setCell w9 tb 10 (.int .i64 x6)
   have HRWA := hid (own_keep HRW9.out fun g hg => hg67.block g (own_lt HRW9.out g hg) (fun e => by injection e with e; have := HRWL.out g hg; omega))
   have HBA : Hid (Below w.heap.size w (w9.setCell ⟨tb, 10, none⟩ (.int .i64 x6))) := hid (HB9.out.grown hg67 HB9.out.size (fun g hg => by injection hg with hg; have := HTB.out; omega))
   clear hg67
   obtain ⟨y, hy⟩ : ∃ y : Bb, y = ⟨nm, ⟨x0, x1, x2⟩, x3, ⟨⟨x0, x1, x2⟩, x4, x5⟩, x6⟩ := ⟨_, rfl⟩
   have HYE := hid hy
   rw [← hy] at HX2
   have b0 : w9.cell? ⟨tb, 0, none⟩ = some (.string (str nm)) := (HT9.out.cell 0).trans rfl
   have b1 : w9.cell? ⟨tb, 1, none⟩ = some (.int .i64 x0) := (HT9.out.cell 1).trans rfl
   have b2 : w9.cell? ⟨tb, 2, none⟩ = some (.int .i64 x1) := (HT9.out.cell 2).trans rfl
   have b3 : w9.cell? ⟨tb, 3, none⟩ = some (.int .i64 x2) := (HT9.out.cell 3).trans rfl
   have b4 : w9.cell? ⟨tb, 4, none⟩ = some (.int .i64 x3) := (HT9.out.cell 4).trans rfl
   have b5 : w9.cell? ⟨tb, 5, none⟩ = some (.int .i64 x0) := (HT9.out.cell 5).trans rfl
   have b6 : w9.cell? ⟨tb, 6, none⟩ = some (.int .i64 x1) := (HT9.out.cell 6).trans rfl
   have b7 : w9.cell? ⟨tb, 7, none⟩ = some (.int .i64 x2) := (HT9.out.cell 7).trans rfl
   have b8 : w9.cell? ⟨tb, 8, none⟩ = some (.int .i64 x4) := (HT9.out.cell 8).trans rfl
   have b9 : w9.cell? ⟨tb, 9, none⟩ = some (.int .i64 x5) := (HT9.out.cell 9).trans rfl
   have hsz : (w9.setCell ⟨tb, 10, none⟩ (.int .i64 x6)).heap.size = w9.heap.size := by simp
   have HXJ : Hid (j ≤ 1000000) := hid (by have := HXL.out; omega)
   have HLY : Hid ((xs ++ [y]).length = j + 1) := hid (by rw [List.length_append, ← HJE.out]; rfl)
   have HNY : Hid (∀ x ∈ xs ++ [y], x.nm.length ≤ 100000) := hid (fun x hx => by
    rcases List.mem_append.1 hx with e | e
    · exact hNm.out x e
    · rw [List.mem_singleton.1 e, HYE.out]; exact HNML.out)
   clear hy HT8 HF8 HF8L HRW8 HB8 HFT HFG HF9 HF6 HF6L HT6 HRW6 HB6 HT5 HF5 HRW5 HB5 HF7L
   go_wp2_with (at_builtin; refine wpList_appB (w9.setCell ⟨tb, 10, none⟩ (.int .i64 x6)) rfl _ _ rfl w.heap.size B d xs j HJE.out.symm rfl HRWA.out ⟨nm, ⟨x0, x1, x2⟩, x3, ⟨⟨x0, x1, x2⟩, x4, x5⟩, x6⟩ _ hsz rfl HXJ.out HBA.out.size ?_)
   intro AZ cZ wZ hoZ hbZ _
   have HRZ : Hid (BRow 90 wZ w.heap.size AZ cZ (xs ++ [y])) := hid (by
    unfold BRow
    rw [HLY.out, bcs_app, bcs_one, HYE.out]
    exact hoZ)
   have HBZ := hid (HBA.out.trans hbZ)
   clear hoZ hbZ hz4 hy4 f0 f1 f2 f3 f4 f5 f6 b0 b1 b2 b3 b4 b5 b6 b7 b8 b9
   go_wp2_with fail
   go_roundg (cnt - (j + 1))
   case measure => exact rs_meas hgk.out HJ.out
   case rel => exact ⟨xs ++ [y], s, A4, n4, c4, AZ, cZ, rfl, by rw [HLY.out], hid (by rw [HLY.out]), hid (by rw [HLY.out]; exact HJ.out), hid (by rw [HLY.out]; exact HX2.out), hBt4, hLn4, HRZ, HBZ, HNY⟩
 have hjc : j = cnt := by have := hj.out; omega
 subst hjc
 have j2 : ¬ (j : Int) < (j : Int) := by omega
 have HE := hid (refP_end (b := b) (xs := xs) (r := r) (by rw [HK0.out]; exact HZ.out) (by rw [HCN.out]; exact HCL.out) (by rw [HCN.out, HK0.out]; exact hX.out))
 have HND := hid (brow_nc hRow.out)
 have hrgt := rsright_c B j d xs wr (by have := hRow.out.sl; rwa [← HJE.out] at this) (by rw [HJE.out]; exact HND.out) (by have := HXL.out; omega) (fun x hx => by have := hNm.out x hx; unfold maxLen; omega)
 have HRN : Hid (r.length = n') := hid hBt.out.len
 clear hge hj hgk hje
 rcases Nat.eq_zero_or_pos n' with h0 | h0
 · subst h0
   have hre : r = [] := List.eq_nil_of_length_eq_zero HRN.out
   have HFE : Hid (refP b = (xs, decide (Rgt xs))) := hid (by rw [HE.out]; exact congrArg _ (decide_eq_decide.2 ⟨fun h => h.2, fun h => ⟨hre, h⟩⟩))
   clear hre
   go_wp2_with fail
   refine hrgt.mono ?_
   rintro e w8 ⟨rfl, hb8⟩
   have HB8 : Hid (Below w.heap.size w w8) := hid (hB.out.trans (hb8.mono hB.out.size))
   have HR8 := hid (hRow.out.keep fun g hg => hb8.block g (own_lt hRow.out g hg))
   clear hb8 hrgt
   go_wp2
   go_ret2
   refine ⟨B, d, ?_, ?_, HB8.out⟩
   · rw [HFE.out, HJE.out]; rfl
   · rw [HFE.out]; exact HR8.out
 · have hre : r ≠ [] := fun e => by have := HRN.out; rw [e] at this; have h1 : ([] : List UInt8).length = 0 := rfl; omega
   have HFE : Hid (refP b = (xs, false)) := hid (by rw [HE.out]; exact congrArg _ (decide_eq_false fun h => hre h.1))
   have e0 : ((n' : Int) == 0) = false := by simp; omega
   have e1 : ¬ (n' : Int) = 0 := by omega
   have e2 : ¬ n' = 0 := by omega
   clear hre h0 hrgt
   go_wp2
   go_ret2
   refine ⟨B, d, ?_, ?_, hB.out⟩
   · rw [HFE.out, HJE.out]; rfl
   · rw [HFE.out]; exact hRow.out
end Go.Proofs.YtolaojkcofbkhaaGreat
