/- What Limit and Beat of a device do; a block made of bytes. -/
import Derived.Test.YtocmgdhgimpfhaaDvW1
namespace Go.Proofs.Ytocmgdhgimpfhaa
open Go.RowKit

set_option maxRecDepth 100000 in
theorem limit_c (w : World) (F : Nat → Prop) (g : Nat) (s : St) (h : Dev w F g s) (i : Int) (hi : i ≤ 9223372036854775807) :
    Calls Try.prog 13 #[.pointer (some ⟨g, 0, none⟩), .int .i64 i] w fun e w' => e = .returned (.tuple #[]) ∧ Left w w' F g (s.bound i) := by
  obtain ⟨k, q, A, c, h⟩ := h
  obtain ⟨-, -, -, h3, h4⟩ := h.cells
  have f3 := Blk.frozen h.blk 3
  have f4 := Blk.frozen h.blk 4
  have HL := hid (fun l hl w' => h.left l hl (w' := w'))
  have HB := hid h.blk
  have HI := hid hi
  clear h hi
  go_enter Try.func13, Try.ntmps13
  by_cases hi : i < 0
  · have hz : i.toNat = 0 := by omega
    have HZ := hid hz
    clear hz
    go_wp2
    go_end0
    refine ⟨rfl, HL.out (some i.toNat) (fun d hd => by injection hd with hd; have := HI.out; omega) _ ((grown_setCell w g 3 _).trans (grown_setCell _ g 4 _)) ?_⟩
    have := (HB.out.store 3 (.bool true)).store 4 (.int .i64 0)
    rw [HZ.out]
    exact this
  · have hz : ((i.toNat : Nat) : Int) = i := by omega
    have HZ := hid hz
    clear hz
    go_wp2
    go_end0
    refine ⟨rfl, HL.out (some i.toNat) (fun d hd => by injection hd with hd; have := HI.out; omega) _ ((grown_setCell w g 3 _).trans (grown_setCell _ g 4 _)) ?_⟩
    have := (HB.out.store 3 (.bool true)).store 4 (.int .i64 i)
    rw [show (((some i.toNat).getD 0 : Nat) : Int) = i from HZ.out]
    exact this
set_option maxRecDepth 100000 in
theorem limit_nil (w : World) (i : Int) :
    Calls Try.prog 13 #[.pointer none, .int .i64 i] w fun e w' => e = .returned (.tuple #[]) ∧ w = w' := by
  go_enter Try.func13, Try.ntmps13
  go_wp2
  refine bodyPost_ret (results_none rfl _ _ _) rfl ?_
  exact ⟨rfl, rfl⟩
set_option maxRecDepth 100000 in
theorem beat_off (w : World) (F : Nat → Prop) (g : Nat) (s : St) (h : Dev w F g s) (ho : s.lim = some 0) :
    Calls Try.prog 35 #[.pointer (some ⟨g, 0, none⟩)] w fun e w' => e = .returned (.int .i64 40) ∧ w = w' := by
  have hc := count_off w F g s h ho
  clear h ho
  go_enter Try.func35, Try.ntmps35
  go_wp2_with fail
  refine hc.mono ?_
  rintro e w' ⟨rfl, rfl⟩
  go_wp2
  go_ret
  exact ⟨rfl, rfl⟩
set_option maxRecDepth 100000 in
theorem beat_on (w : World) (F : Nat → Prop) (g : Nat) (s : St) (h : Dev w F g s) (ho : s.lim ≠ some 0) :
    Calls Try.prog 35 #[.pointer (some ⟨g, 0, none⟩)] w fun e w' => e = .returned (.int .i64 0) ∧ Left w w' F g s.dec := by
  have hc := count_on w F g s h ho
  clear h ho
  go_enter Try.func35, Try.ntmps35
  go_wp2_with fail
  refine hc.mono ?_
  rintro e w' ⟨rfl, hL⟩
  have HL := hid hL
  clear hL
  go_wp2
  go_ret
  exact ⟨rfl, HL.out⟩
set_option maxRecDepth 100000 in
theorem beat_nil (w : World) :
    Calls Try.prog 35 #[.pointer none] w fun e w' => e = .returned (.int .i64 1) ∧ w = w' := by
  go_enter Try.func35, Try.ntmps35
  go_wp2_with fail
  refine (count_nil w).mono ?_
  rintro e w' ⟨rfl, rfl⟩
  go_wp2
  go_ret
  exact ⟨rfl, rfl⟩

theorem Try.infoB : (Try.prog.info? 94).map (·.size) = some 16 := by kernel_rfl
theorem Try.undB : Try.prog.underlying 94 = some (.array 16 5) := by kernel_rfl

/-- copy of at most sixteen bytes. -/
theorem run_copy16 (w : World) (ty : TypeId) (b cap : Nat) (A : Option Addr) (n c lo hi : Nat) (l : List UInt8) (hr : Bts w lo hi A n l) (hn : n ≤ 16) (ht : w.there b 0 16) :
    (Builtin.copy_ #[44, 44] ty #[.slice (some ⟨b, 0, none⟩) 16 cap, .slice A n c]).run Try.prog w = .ok (.int .i64 (n : Int)) (w.setCells b 0 (bs l)) := by
  have hi1 : (Try.prog.info? 5).map (·.size) = some 1 := by kernel_rfl
  rcases Nat.eq_zero_or_pos n with h0 | h0
  · subst h0
    have hl : l = [] := List.eq_nil_of_length_eq_zero hr.1
    subst hl
    exact run_copy_none w 44 44 ty 5 _ _ 16 cap 0 c Try.underlying44 hi1 (by decide)
  · obtain ⟨g, off, rfl, _, _, hc⟩ := hr.2 h0
    have hlen : (bs l).length = n := by rw [bs_len]; exact hr.1
    have := run_copy_cells (P := Try.prog) w 44 44 ty 5 b 0 16 cap ⟨g, off, none⟩ n c (bs l) Try.underlying44 hi1 (by rw [hlen]; exact (Nat.min_eq_left hn).symm) (fun j v hv => by rw [add_plain]; exact hc j v hv)
      (fun j hj => (ht j (by omega)).1) (fun j hj => (ht j (by omega)).2) (bs_one l)
    rw [hlen] at this
    exact this
theorem copied {w : World} {b : Nat} {l : List UInt8} (hl : l.length ≤ 16) (hz : w.rangeAt b 0 (bs (List.replicate 16 0))) : (w.setCells b 0 (bs l)).rangeAt b 0 (bs (pad l)) := by
  intro j v hv
  have hj : j < 16 := by have := (List.getElem?_eq_some_iff.1 hv).1; rwa [bs_len, pad_len l hl] at this
  by_cases h : j < l.length
  · rw [World.cell?_setCells_in b (bs l) 0 w (fun i hi => hz.isSome i (by rw [bs_len] at hi ⊢; simp; omega)) j (by rw [bs_len]; exact h), ← hv]
    have : (bs (pad l))[j]? = (bs l)[j]? := by unfold pad; rw [bs_app, List.getElem?_append_left (by rw [bs_len]; exact h)]
    rw [this]
    exact (List.getElem?_eq_getElem _).symm
  · rw [World.cell?_setCells_out b (bs l) 0 w ⟨b, 0 + j, none⟩ (fun _ _ => .inr (by rw [bs_len]; show 0 + l.length ≤ 0 + j; omega))]
    refine hz j v ?_
    rw [← hv]
    unfold pad
    rw [bs_app, List.getElem?_append_right (by rw [bs_len]; omega), bs_len]
    simp only [bs, List.map_replicate]
    rw [List.getElem?_replicate, List.getElem?_replicate, if_pos hj, if_pos (by omega)]
theorem z16 (w : World) : (w.alloc (.cells #[.int .u8 0, .int .u8 0, .int .u8 0, .int .u8 0, .int .u8 0, .int .u8 0, .int .u8 0, .int .u8 0, .int .u8 0, .int .u8 0, .int .u8 0, .int .u8 0, .int .u8 0, .int .u8 0, .int .u8 0, .int .u8 0] 94)).rangeAt w.heap.size 0 (bs (List.replicate 16 0)) ∧
    (w.alloc (.cells #[.int .u8 0, .int .u8 0, .int .u8 0, .int .u8 0, .int .u8 0, .int .u8 0, .int .u8 0, .int .u8 0, .int .u8 0, .int .u8 0, .int .u8 0, .int .u8 0, .int .u8 0, .int .u8 0, .int .u8 0, .int .u8 0] 94)).there w.heap.size 0 16 := by
  have hB := Blk.new w 94 #[.int .u8 0, .int .u8 0, .int .u8 0, .int .u8 0, .int .u8 0, .int .u8 0, .int .u8 0, .int .u8 0, .int .u8 0, .int .u8 0, .int .u8 0, .int .u8 0, .int .u8 0, .int .u8 0, .int .u8 0, .int .u8 0]
  refine ⟨fun j v hv => ?_, fun j hj => ⟨?_, hB.frozen _⟩⟩
  · rw [hB.cell, Nat.zero_add, ← hv]
    simp only [List.getElem?_toArray]
    rfl
  · rw [hB.cell, Nat.zero_add, Array.getElem?_eq_getElem (by simpa using hj)]
    rfl

set_option maxRecDepth 100000 in
theorem whole_c (A : Option Addr) (n c : Nat) (l : List UInt8) (w : World) (hr : Bts w 0 w.heap.size A n l) (hn : n ≤ 16) :
    Calls Try.prog 40 #[.slice A n c] w fun e w' => e = .returned (.agg (bs (pad l)).toArray) ∧ Below w.heap.size w w' := by
  obtain ⟨r1, t1⟩ := z16 w
  go_enter Try.func40, Try.ntmps40
  generalize hw1 : w.alloc (.cells #[.int .u8 0, .int .u8 0, .int .u8 0, .int .u8 0, .int .u8 0, .int .u8 0, .int .u8 0, .int .u8 0, .int .u8 0, .int .u8 0, .int .u8 0, .int .u8 0, .int .u8 0, .int .u8 0, .int .u8 0, .int .u8 0] 94) = w1 at *
  obtain ⟨r2, t2⟩ := z16 w1
  have hs1 : w1.heap.size = w.heap.size + 1 := by rw [← hw1]; simp
  have hb1 : Below w.heap.size w w1 := by rw [← hw1]; exact (Below.refl _ _).alloc (Nat.le_refl _) _
  rw [hs1] at r2 t2
  generalize hw2 : w1.alloc (.cells #[.int .u8 0, .int .u8 0, .int .u8 0, .int .u8 0, .int .u8 0, .int .u8 0, .int .u8 0, .int .u8 0, .int .u8 0, .int .u8 0, .int .u8 0, .int .u8 0, .int .u8 0, .int .u8 0, .int .u8 0, .int .u8 0] 94) = w2 at *
  have hb2 : Below (w.heap.size + 1) w1 w2 := by rw [← hw2]; exact (Below.refl _ _).alloc (by omega) _
  have hb12 : Below w.heap.size w w2 := hb1.trans (hb2.mono (by omega))
  have r2' : w2.rangeAt w.heap.size 0 (bs (List.replicate 16 0)) := rangeAt_keep r1 (hb2.block _ (by omega))
  have t2' : w2.there w.heap.size 0 16 := there_keep t1 (hb2.block _ (by omega))
  have hcp := run_copy16 w2 3 (w.heap.size + 1) 16 A n c 0 w.heap.size l (hr.below hb12 (Nat.le_refl _)) hn t2
  have hl := hr.len
  have r3 := copied (l := l) (by omega) r2
  have t3 : (w2.setCells (w.heap.size + 1) 0 (bs l)).there w.heap.size 0 16 := World.there_setCells t2' _ _ _
  have g3 := grown_setCells (w.heap.size + 1) (bs l) 0 w2
  generalize hw3 : w2.setCells (w.heap.size + 1) 0 (bs l) = w3 at *
  have hpl : (bs (pad l)).length = 16 := by rw [bs_len, pad_len l (by omega)]
  have hin : (Try.prog.info? 94).map (·.size) = some (bs (pad l)).length := by rw [hpl]; exact Try.infoB
  have hin2 : (Try.prog.info? 94).map (·.size) = some (bs (pad l)).toArray.size := by rw [List.size_toArray]; exact hin
  have h1c := all_oneCell_toArray (bs_one (pad l))
  have t3' : w3.there w.heap.size 0 (bs (pad l)).toArray.size := by
    show w3.there w.heap.size 0 (bs (pad l)).length
    rw [hpl]
    exact t3
  have r4 : (w3.setCells w.heap.size 0 (bs (pad l))).rangeAt w.heap.size 0 (bs (pad l)) := World.rangeAt_setCells_same _ _ _ _ (by rw [hpl]; exact t3)
  have g4 := grown_setCells w.heap.size (bs (pad l)) 0 w3
  generalize hw4 : w3.setCells w.heap.size 0 (bs (pad l)) = w4 at r4 g4
  have HW4 := hid hw4
  have hres := run_loadVar_mid (P := Try.prog) w4 w.heap.size 0 94 (bs (pad l)) (.array 16 5) r4 Try.undB rfl hin
  have HB : Hid (Below w.heap.size w w4) := hid ((hb12.grown g3 hb12.size (fun k hk => by injection hk with hk; omega)).grown g4 (Nat.le_trans hb12.size g3.size) (fun k hk => by injection hk with hk; omega))
  have HI := hid hin
  have HI2 := hid hin2
  have H1 := hid h1c
  have HT := hid t3'
  have HR := hid r3
  generalize bs (pad l) = L at *
  clear r1 t1 r2 t2 r2' t2' t3 t3' r3 g3 g4 r4 hb1 hb2 hb12 hpl hr hn hl hw3 hw4 hin hin2 h1c
  subst hw1
  subst hw2
  go_wp2_with (first | (refine wpList_load_mid rfl 94 _ rfl _ _ rfl L _ HR.out Try.undB rfl HI.out ?_) | (refine wpList_store_mid rfl 94 _ _ rfl _ _ L.toArray rfl rfl HT.out HI2.out H1.out ?_; rw [show w3.setCells w.heap.size 0 L.toArray.toList = w4 from HW4.out]))
  refine bodyPost_ret (v := .agg L.toArray) ?_ rfl ⟨rfl, HB.out⟩
  simp [results, Try.results40, Act.put, asAddr, hres]
end Go.Proofs.Ytocmgdhgimpfhaa
