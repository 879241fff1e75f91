import Derived.Test.YtolaojkcofbkhaaGreatStDr
import Derived.Test.YtolaojkcofbkhaaGreatPkW2
import Derived.BigQuiet
import Derived.Lib.SmallJoins
import Derived.Test.YtolaojkcofbkhaaGreatIter
import Derived.Lib.SlMapMerge
import Derived.Maps.Ext
import Derived.Laws.IdiomRangeMap
namespace Go.Proofs.YtolaojkcofbkhaaGreat
set_option maxRecDepth 100000
set_option maxHeartbeats 4000000
open Go.RowKit
theorem Tryz.sizeBlob : (Tryz.prog.info? 90).map (·.size) = some 11 := by kernel_rfl
theorem blk_there {w : World} {b : Nat} {t : TypeId} {cs : Array Value} (h : Blk w b t cs) (n : Nat) (hn : n ≤ cs.size) : w.there b 0 n := fun j hj =>
 ⟨by rw [h.cell, Nat.zero_add, Array.getElem?_eq_getElem (by omega)]; rfl, h.frozen _⟩
theorem blkB_range {w : World} {b : Nat} {t : TypeId} {l : List Value} (h : Blk w b t l.toArray) : w.rangeAt b 0 l := fun j u hu => by
 rw [Nat.zero_add, h.cell, List.getElem?_toArray]
 exact hu
section
variable {w : World} {b : Nat} {t : TypeId} {cs : Array Value}
theorem blk_setB (h : Blk w b t cs) (hs : cs.size = 11) (y : Bb) : Blk (w.setCells b 0 y.cells) b t #[.string (str (y).nm), .int .i64 (y).k.t, .int .i64 (y).k.c, .int .i64 (y).k.e, .int .i64 (y).b, .int .i64 (y).p.k.t, .int .i64 (y).p.k.c, .int .i64 (y).p.k.e, .int .i64 (y).p.id, .int .i64 (y).p.ver, .int .i64 (y).sz] := h.setAll y.cells (by rw [hs]; rfl)
theorem wpList_storeB {ops : Array Oper} {rest : List Oper} {op : Oper} {a : Act} {Q : Exit → Act → World → Prop} (hgd : op.guard = none) (x y : Operand) (ho : op.op = .store 90 x y)
 (h : Blk w b t cs) (hs : cs.size = 11) (hx : a.eval x = .pointer (some ⟨b, 0, none⟩)) (z : Bb) (hy : a.eval y = (.agg #[.string (str (z).nm), .int .i64 (z).k.t, .int .i64 (z).k.c, .int .i64 (z).k.e, .int .i64 (z).b, .int .i64 (z).p.k.t, .int .i64 (z).p.k.c, .int .i64 (z).p.k.e, .int .i64 (z).p.id, .int .i64 (z).p.ver, .int .i64 (z).sz]))
 (hK : ∀ w', Blk w' b t #[.string (str (z).nm), .int .i64 (z).k.t, .int .i64 (z).k.c, .int .i64 (z).k.e, .int .i64 (z).b, .int .i64 (z).p.k.t, .int .i64 (z).p.k.c, .int .i64 (z).p.k.e, .int .i64 (z).p.id, .int .i64 (z).p.ver, .int .i64 (z).sz] → w.grownBy w' (some b) → wpList Tryz.prog ops Q rest (a.put op.dst undef) w') : wpList Tryz.prog ops Q (op :: rest) a w :=
 wpList_store_mid hgd 90 x y ho b 0 z.cells.toArray hx hy (blk_there h 11 (by omega)) Tryz.sizeBlob (all_oneCell_toArray (bb_cell z)) (hK _ (blk_setB h hs z) (grown_setCells b z.cells 0 w))
theorem wp_storeB {op : Oper} {a : Act} {K : Act → World → Prop} {Q : Exit → Act → World → Prop} (x y : Operand) (ho : op.op = .store 90 x y)
 (h : Blk w b t cs) (hs : cs.size = 11) (hx : a.eval x = .pointer (some ⟨b, 0, none⟩)) (z : Bb) (hy : a.eval y = (.agg #[.string (str (z).nm), .int .i64 (z).k.t, .int .i64 (z).k.c, .int .i64 (z).k.e, .int .i64 (z).b, .int .i64 (z).p.k.t, .int .i64 (z).p.k.c, .int .i64 (z).p.k.e, .int .i64 (z).p.id, .int .i64 (z).p.ver, .int .i64 (z).sz]))
 (hK : ∀ w', Blk w' b t #[.string (str (z).nm), .int .i64 (z).k.t, .int .i64 (z).k.c, .int .i64 (z).k.e, .int .i64 (z).b, .int .i64 (z).p.k.t, .int .i64 (z).p.k.c, .int .i64 (z).p.k.e, .int .i64 (z).p.id, .int .i64 (z).p.ver, .int .i64 (z).sz] → w.grownBy w' (some b) → K (a.put op.dst undef) w') : op.wp Tryz.prog a w K Q :=
 wp_store_mid 90 x y ho b 0 z.cells.toArray hx hy (blk_there h 11 (by omega)) Tryz.sizeBlob (all_oneCell_toArray (bb_cell z)) (hK _ (blk_setB h hs z) (grown_setCells b z.cells 0 w))
theorem load_B {y : Bb} (h : Blk w b t #[.string (str (y).nm), .int .i64 (y).k.t, .int .i64 (y).k.c, .int .i64 (y).k.e, .int .i64 (y).b, .int .i64 (y).p.k.t, .int .i64 (y).p.k.c, .int .i64 (y).p.k.e, .int .i64 (y).p.id, .int .i64 (y).p.ver, .int .i64 (y).sz]) : (loadVar 90 ⟨b, 0, none⟩).run Tryz.prog w = .ok (.agg #[.string (str (y).nm), .int .i64 (y).k.t, .int .i64 (y).k.c, .int .i64 (y).k.e, .int .i64 (y).b, .int .i64 (y).p.k.t, .int .i64 (y).p.k.c, .int .i64 (y).p.k.e, .int .i64 (y).p.id, .int .i64 (y).p.ver, .int .i64 (y).sz]) w :=
 run_loadVar_mid (P := Tryz.prog) w b 0 90 y.cells _ (blkB_range (l := y.cells) h) Tryz.underlying90 rfl Tryz.sizeBlob
theorem exec_loadB {op : Oper} {a : Act} {y : Bb} (x : Operand) (ho : op.op = .load 90 x) (hx : a.eval x = .pointer (some ⟨b, 0, none⟩)) (h : Blk w b t #[.string (str (y).nm), .int .i64 (y).k.t, .int .i64 (y).k.c, .int .i64 (y).k.e, .int .i64 (y).b, .int .i64 (y).p.k.t, .int .i64 (y).p.k.c, .int .i64 (y).p.k.e, .int .i64 (y).p.id, .int .i64 (y).p.ver, .int .i64 (y).sz]) : (execOp a.eval op).run Tryz.prog w = .ok (.value (.agg #[.string (str (y).nm), .int .i64 (y).k.t, .int .i64 (y).k.c, .int .i64 (y).k.e, .int .i64 (y).b, .int .i64 (y).p.k.t, .int .i64 (y).p.k.c, .int .i64 (y).p.k.e, .int .i64 (y).p.id, .int .i64 (y).p.ver, .int .i64 (y).sz])) w :=
 exec_load_mid 90 x ho b 0 hx y.cells _ (blkB_range (l := y.cells) h) Tryz.underlying90 rfl Tryz.sizeBlob
theorem res_B {fn : Func} {c r : Nat} (hr : fn.results = #[.cell c 90, .tmp r]) {tmps : Array Value} {y : Bb} (h : Blk w b t #[.string (str (y).nm), .int .i64 (y).k.t, .int .i64 (y).k.c, .int .i64 (y).k.e, .int .i64 (y).b, .int .i64 (y).p.k.t, .int .i64 (y).p.k.c, .int .i64 (y).p.k.e, .int .i64 (y).p.id, .int .i64 (y).p.ver, .int .i64 (y).sz]) (hc : tmps.getD c undef = .pointer (some ⟨b, 0, none⟩)) {u : Value} (hu : tmps.getD r undef = u) :
 (results fn tmps).run Tryz.prog w = .ok (.tuple #[(.agg #[.string (str (y).nm), .int .i64 (y).k.t, .int .i64 (y).k.c, .int .i64 (y).k.e, .int .i64 (y).b, .int .i64 (y).p.k.t, .int .i64 (y).p.k.c, .int .i64 (y).p.k.e, .int .i64 (y).p.id, .int .i64 (y).p.ver, .int .i64 (y).sz]), u]) w := by
 have := load_B h
 subst hu
 have hc' : tmps[c]?.getD undef = .pointer (some ⟨b, 0, none⟩) := by simpa using hc
 simp [results, hr, hc', asAddr, this]
end
theorem rightName_c (nm : List UInt8) (w : World) : Calls Tryz.prog 87 #[.string (str nm)] w fun e w' => e = .returned (.bool (decide (nmOk nm))) ∧ w = w' := by
 have hs := str_size nm
 have HE : decide (nmOk nm) = (decide (1 ≤ nm.length) && decide (nm.length ≤ 40)) := by
  unfold nmOk
  cases nm with
  | nil => simp
  | cons a r => simp
 rw [HE]
 clear HE
 rw [← hs]
 generalize str nm = s at *
 clear hs
 by_cases h1 : 1 ≤ s.size
 · have e1 : decide (1 ≤ s.size) = true := by simpa using h1
   have e2 : decide (0 < s.size) = true := decide_eq_true (by omega)
   have e3 : decide ((1 : Int) ≤ (s.size : Int)) = true := decide_eq_true (by omega)
   have e4 : (1 : Int) ≤ (s.size : Int) := by omega
   rw [e1, Bool.true_and]
   go_enter Tryz.func87, Tryz.ntmps87
   by_cases h2 : s.size ≤ 40
   · have f1 : decide (s.size ≤ 40) = true := by simpa using h2
     have f2 : decide ((s.size : Int) ≤ 40) = true := by simp; omega
     have f3 : (s.size : Int) ≤ 40 := by omega
     rw [f1]
     go_wp2
     go_ret
     exact ⟨rfl, rfl⟩
   · have f1 : decide (s.size ≤ 40) = false := by simpa using h2
     have f2 : decide ((s.size : Int) ≤ 40) = false := by simp; omega
     have f3 : ¬ (s.size : Int) ≤ 40 := by omega
     rw [f1]
     go_wp2
     go_ret
     exact ⟨rfl, rfl⟩
 · have e1 : decide (1 ≤ s.size) = false := by simpa using h1
   have e2 : decide (0 < s.size) = false := decide_eq_false (by omega)
   have e3 : decide ((1 : Int) ≤ (s.size : Int)) = false := decide_eq_false (by omega)
   have e4 : ¬ (1 : Int) ≤ (s.size : Int) := by omega
   rw [e1, Bool.false_and]
   go_enter Tryz.func87, Tryz.ntmps87
   go_wp2
   go_ret
   exact ⟨rfl, rfl⟩
theorem rightKey_c (k : Ky) (w : World) : Calls Tryz.prog 88 #[(.agg #[.int .i64 (k).t, .int .i64 (k).c, .int .i64 (k).e])] w fun e w' => e = .returned (.bool (decide k.right)) ∧ Below w.heap.size w w' := by
 go_enter Tryz.func88, Tryz.ntmps88
 have HB : Hid (Below w.heap.size w (w.alloc (.cells #[.int .i64 k.t, .int .i64 k.c, .int .i64 k.e] 54))) := hid ((Below.refl _ _).alloc (nl _) _)
 by_cases h1 : 0 ≤ k.t
 · have e1 : decide (0 ≤ k.t) = true := by simpa using h1
   by_cases h2 : 0 ≤ k.c
   · have e2 : decide (0 ≤ k.c) = true := by simpa using h2
     have HE : Hid (decide k.right = decide (0 ≤ k.e)) := hid (by unfold Ky.right; simp [h1, h2])
     rw [HE.out]
     clear h1 h2 HE
     go_wp2
     go_ret
     exact ⟨rfl, HB.out⟩
   · have e2 : decide (0 ≤ k.c) = false := by simpa using h2
     have HE : Hid (decide k.right = false) := hid (by unfold Ky.right; simp [h2])
     rw [HE.out]
     clear h1 h2 HE
     go_wp2
     go_ret
     exact ⟨rfl, HB.out⟩
 · have e1 : decide (0 ≤ k.t) = false := by simpa using h1
   have HE : Hid (decide k.right = false) := hid (by unfold Ky.right; simp [h1])
   rw [HE.out]
   clear h1 HE
   go_wp2
   go_ret
   exact ⟨rfl, HB.out⟩
def bbR (x : Bb) : Prop := nmOk x.nm ∧ x.k.right ∧ 2 ≤ x.b ∧ x.b < 4096 ∧ 0 ≤ x.p.id ∧ 0 ≤ x.p.ver ∧ 0 ≤ x.sz ∧ x.sz ≤ 65536
instance (x : Bb) : Decidable (bbR x) := inferInstanceAs (Decidable (_ ∧ _))
theorem bbR_ok {x : Bb} (h : x.p.k = x.k) : bbOk x ↔ bbR x := by
 unfold bbOk bbR
 constructor
 · rintro ⟨a, b, _, c, d, e, f, g, i⟩; exact ⟨a, b, g, by omega, c, d, e, f⟩
 · rintro ⟨a, b, g, i, c, d, e, f⟩; exact ⟨a, b, h, c, d, e, f, g, by omega⟩
theorem rightBlob_c (x : Bb) (w : World) : Calls Tryz.prog 117 #[(.agg #[.string (str (x).nm), .int .i64 (x).k.t, .int .i64 (x).k.c, .int .i64 (x).k.e, .int .i64 (x).b, .int .i64 (x).p.k.t, .int .i64 (x).p.k.c, .int .i64 (x).p.k.e, .int .i64 (x).p.id, .int .i64 (x).p.ver, .int .i64 (x).sz])] w fun e w' => e = .returned (.bool (decide (bbR x))) ∧ Below w.heap.size w w' := by
 have hb1 : Below w.heap.size w (w.alloc (.cells #[.string (str (x).nm), .int .i64 (x).k.t, .int .i64 (x).k.c, .int .i64 (x).k.e, .int .i64 (x).b, .int .i64 (x).p.k.t, .int .i64 (x).p.k.c, .int .i64 (x).p.k.e, .int .i64 (x).p.id, .int .i64 (x).p.ver, .int .i64 (x).sz] 90)) := (Below.refl _ _).alloc (nl _) _
 have hk1 := Blk.new w 90 #[.string (str (x).nm), .int .i64 (x).k.t, .int .i64 (x).k.c, .int .i64 (x).k.e, .int .i64 (x).b, .int .i64 (x).p.k.t, .int .i64 (x).p.k.c, .int .i64 (x).p.k.e, .int .i64 (x).p.id, .int .i64 (x).p.ver, .int .i64 (x).sz]
 have HB1 := hid hb1
 have HK1 := hid hk1
 obtain ⟨c0, c1, c2, c3, c4, c5, c6, c7, c8, c9, c10⟩ := bbB_cells (x := x) hk1
 clear hb1 hk1
 go_enter Tryz.func117, Tryz.ntmps117
 go_wp2_with fail
 refine (rightName_c x.nm _).mono ?_
 rintro e w' ⟨rfl, rfl⟩
 by_cases h1 : nmOk x.nm
 · rw [decide_eq_true h1]
   go_wp2_with fail
   refine (rightKey_c x.k _).mono ?_
   rintro e w2 ⟨rfl, hb2⟩
   clear c0 c1 c2 c3 c4 c5 c6 c7 c8 c9 c10
   obtain ⟨c0, c1, c2, c3, c4, c5, c6, c7, c8, c9, c10⟩ := bbB_cells (x := x) (HK1.out.keep (hb2.block _ HK1.out.lt))
   have HB2 := hid (HB1.out.trans (hb2.mono HB1.out.size))
   clear hb2 HB1 HK1
   by_cases h2 : x.k.right
   · rw [decide_eq_true h2]
     by_cases h3 : 2 ≤ x.b
     · have e3 : decide (2 ≤ x.b) = true := decide_eq_true h3
       by_cases h4 : x.b < 4096
       · have e4 : decide (x.b < 4096) = true := decide_eq_true h4
         by_cases h5 : 0 ≤ x.p.id
         · have e5 : decide (0 ≤ x.p.id) = true := decide_eq_true h5
           by_cases h6 : 0 ≤ x.p.ver
           · have e6 : decide (0 ≤ x.p.ver) = true := decide_eq_true h6
             by_cases h7 : 0 ≤ x.sz
             · have e7 : decide (0 ≤ x.sz) = true := decide_eq_true h7
               by_cases h8 : x.sz ≤ 65536
               · have e8 : decide (x.sz ≤ 65536) = true := decide_eq_true h8
                 have HF : Hid (decide (bbR x) = true) := hid (decide_eq_true ⟨h1, h2, h3, h4, h5, h6, h7, h8⟩)
                 clear h1 h2 h3 h4 h5 h6 h7 h8
                 go_wp2
                 go_ret
                 exact ⟨congrArg (fun b => Ending.returned (.bool b)) HF.out.symm, HB2.out⟩
               · have e8 : decide (x.sz ≤ 65536) = false := decide_eq_false h8
                 have HF : Hid (decide (bbR x) = false) := hid (decide_eq_false fun e => h8 e.2.2.2.2.2.2.2)
                 clear h1 h2 h3 h4 h5 h6 h7 h8
                 go_wp2
                 go_ret
                 exact ⟨congrArg (fun b => Ending.returned (.bool b)) HF.out.symm, HB2.out⟩
             · have e7 : decide (0 ≤ x.sz) = false := decide_eq_false h7
               have HF : Hid (decide (bbR x) = false) := hid (decide_eq_false fun e => h7 e.2.2.2.2.2.2.1)
               clear h1 h2 h3 h4 h5 h6 h7
               go_wp2
               go_ret
               exact ⟨congrArg (fun b => Ending.returned (.bool b)) HF.out.symm, HB2.out⟩
           · have e6 : decide (0 ≤ x.p.ver) = false := decide_eq_false h6
             have HF : Hid (decide (bbR x) = false) := hid (decide_eq_false fun e => h6 e.2.2.2.2.2.1)
             clear h1 h2 h3 h4 h5 h6
             go_wp2
             go_ret
             exact ⟨congrArg (fun b => Ending.returned (.bool b)) HF.out.symm, HB2.out⟩
         · have e5 : decide (0 ≤ x.p.id) = false := decide_eq_false h5
           have HF : Hid (decide (bbR x) = false) := hid (decide_eq_false fun e => h5 e.2.2.2.2.1)
           clear h1 h2 h3 h4 h5
           go_wp2
           go_ret
           exact ⟨congrArg (fun b => Ending.returned (.bool b)) HF.out.symm, HB2.out⟩
       · have e4 : decide (x.b < 4096) = false := decide_eq_false h4
         have HF : Hid (decide (bbR x) = false) := hid (decide_eq_false fun e => h4 e.2.2.2.1)
         clear h1 h2 h3 h4
         go_wp2
         go_ret
         exact ⟨congrArg (fun b => Ending.returned (.bool b)) HF.out.symm, HB2.out⟩
     · have e3 : decide (2 ≤ x.b) = false := decide_eq_false h3
       have HF : Hid (decide (bbR x) = false) := hid (decide_eq_false fun e => h3 e.2.2.1)
       clear h1 h2 h3
       go_wp2
       go_ret
       exact ⟨congrArg (fun b => Ending.returned (.bool b)) HF.out.symm, HB2.out⟩
   · rw [decide_eq_false h2]
     have HF : Hid (decide (bbR x) = false) := hid (decide_eq_false fun e => h2 e.2.1)
     clear h1 h2
     go_wp2
     go_ret
     exact ⟨congrArg (fun b => Ending.returned (.bool b)) HF.out.symm, HB2.out⟩
 · rw [decide_eq_false h1]
   have HB2 := HB1
   have HF : Hid (decide (bbR x) = false) := hid (decide_eq_false fun e => h1 e.1)
   clear h1
   go_wp2
   go_ret
   exact ⟨congrArg (fun b => Ending.returned (.bool b)) HF.out.symm, HB2.out⟩
theorem grown_below_row {a b : World} (h : Below a.heap.size a b) : a.grownBy b none := ⟨h.os, h.tape, h.output, h.size, fun k hk _ => h.block k hk⟩
theorem rdI_any (w : World) (lo g : Nat) (l : List UInt8) (h : Rd w lo g l) :
 Calls Tryz.prog 116 #[.pointer (some ⟨g, 0, none⟩)] w fun e w' => ∃ (ok : Bool) (x : Int), e = .returned (.tuple #[.int .i64 x, .bool ok]) ∧ w.grownBy w' (some g) ∧ (ok = false → rdI l = none) ∧ (ok = true → ∃ r, rdI l = some (x, r) ∧ Rd w' lo g r) := by
 rcases Nat.eq_zero_or_pos (rd l).2 with hz | hz
 · refine (rnum_none w lo g l h hz).mono ?_
   rintro e w' ⟨rfl, -, hg⟩
   exact ⟨false, 0, rfl, hg, fun _ => if_pos hz, fun h => by cases h⟩
 · refine (rnum_some w lo g l h hz).mono ?_
   rintro e w' ⟨rfl, hr, hg⟩
   exact ⟨true, _, rfl, hg, fun h => (by cases h), fun _ => ⟨_, if_neg (by omega), hr⟩⟩
theorem rdT_any (w : World) (lo g : Nat) (l : List UInt8) (h : Rd w lo g l) :
 Calls Tryz.prog 115 #[.pointer (some ⟨g, 0, none⟩)] w fun e w' => ∃ (ok : Bool) (x : List UInt8), e = .returned (.tuple #[.string (str x), .bool ok]) ∧ w.grownBy w' (some g) ∧ (ok = false → rdT l = none) ∧ (ok = true → ∃ r, rdT l = some (x, r) ∧ Rd w' lo g r) := by
 rcases Nat.eq_zero_or_pos (rd l).2 with hz | hz
 · refine (rtxt_none w lo g l h hz).mono ?_
   rintro e w' ⟨rfl, -, hg⟩
   exact ⟨false, [], rfl, hg, fun _ => if_pos (.inl hz), fun h => by cases h⟩
 · rcases Nat.lt_or_ge (l.drop (rd l).2).length (rd l).1 with hl | hl
   · refine (rtxt_long w lo g l h hz hl).mono ?_
     rintro e w' ⟨rfl, -, hg⟩
     exact ⟨false, [], rfl, hg, fun _ => if_pos (.inr hl), fun h => by cases h⟩
   · refine (rtxt_some w lo g l h hz hl).mono ?_
     rintro e w' ⟨rfl, hr, hg⟩
     exact ⟨true, _, rfl, hg, fun h => (by cases h), fun _ => ⟨_, if_neg (by omega), hr⟩⟩
def REnt (w : World) (lo g : Nat) (l : List UInt8) (e : Ending) (w' : World) : Prop :=
 ∃ (ok : Bool) (x : Bb), e = .returned (.tuple #[(.agg #[.string (str (x).nm), .int .i64 (x).k.t, .int .i64 (x).k.c, .int .i64 (x).k.e, .int .i64 (x).b, .int .i64 (x).p.k.t, .int .i64 (x).p.k.c, .int .i64 (x).p.k.e, .int .i64 (x).p.id, .int .i64 (x).p.ver, .int .i64 (x).sz]), .bool ok]) ∧ w.grownBy w' (some g) ∧ (ok = false → ∀ y r, rdBl l = some (y, r) → ¬ bbOk y) ∧ (ok = true → ∃ r, rdBl l = some (x, r) ∧ bbOk x ∧ Rd w' lo g r)
theorem REnt.none_ {w w' : World} {lo g : Nat} {l : List UInt8} (hg : w.grownBy w' (some g)) (h : rdBl l = none) : REnt w lo g l (.returned (.tuple #[(.agg #[.string (str (bb0).nm), .int .i64 (bb0).k.t, .int .i64 (bb0).k.c, .int .i64 (bb0).k.e, .int .i64 (bb0).b, .int .i64 (bb0).p.k.t, .int .i64 (bb0).p.k.c, .int .i64 (bb0).p.k.e, .int .i64 (bb0).p.id, .int .i64 (bb0).p.ver, .int .i64 (bb0).sz]), .bool false])) w' := by
 refine ⟨false, bb0, rfl, hg, fun _ y r e => ?_, fun e => by cases e⟩
 rw [h] at e
 cases e
theorem gr_set {w w1 : World} {g b o : Nat} {u : Value} (h : w.grownBy w1 (some g)) (hb : w.heap.size ≤ b) : w.grownBy (w1.setCell ⟨b, o, none⟩ u) (some g) :=
 h.andThen (grown_setCell w1 b o u) fun j hj => .inl (by injection hj with hj; omega)
theorem rdBl_no {l : List UInt8} (h : rdT l = none) : rdBl l = none := by unfold rdBl; rw [h]
theorem rdBl_no2 {l nm r : List UInt8} (h : rdT l = some (nm, r)) (h2 : rdIs 7 r = none) : rdBl l = none := by unfold rdBl; rw [h]; dsimp only; rw [h2]
theorem rdBl_yes {l nm r r' : List UInt8} {a b c d e f g : Int} (h : rdT l = some (nm, r)) (h2 : rdIs 7 r = some ([a, b, c, d, e, f, g], r')) : rdBl l = some (⟨nm, ⟨a, b, c⟩, d, ⟨⟨a, b, c⟩, e, f⟩, g⟩, r') := by unfold rdBl; rw [h]; dsimp only; rw [h2]; rfl
theorem keep_set {w : World} {b o k : Nat} {u : Value} (h : k ≠ b) : (w.setCell ⟨b, o, none⟩ u).heap[k]? = w.heap[k]? := Below.heap_setCell w ⟨b, o, none⟩ u k (by simpa using h)
theorem readEntry_c (w : World) (lo g : Nat) (l : List UInt8) (h : Rd w lo g l) : Calls Tryz.prog 72 #[.pointer (some ⟨g, 0, none⟩)] w (REnt w lo g l) := by
 have HGL := hid h.lt
 have HR := hid h
 clear h
 go_enter Tryz.func72, Tryz.ntmps72
 have hr2 := HR.out.keep (w' := (w.alloc (.cells #[.string (str (bb0).nm), .int .i64 (bb0).k.t, .int .i64 (bb0).k.c, .int .i64 (bb0).k.e, .int .i64 (bb0).b, .int .i64 (bb0).p.k.t, .int .i64 (bb0).p.k.c, .int .i64 (bb0).p.k.e, .int .i64 (bb0).p.id, .int .i64 (bb0).p.ver, .int .i64 (bb0).sz] 90)).alloc (.cells #[.string (str (bb0).nm), .int .i64 (bb0).k.t, .int .i64 (bb0).k.c, .int .i64 (bb0).k.e, .int .i64 (bb0).b, .int .i64 (bb0).p.k.t, .int .i64 (bb0).p.k.c, .int .i64 (bb0).p.k.e, .int .i64 (bb0).p.id, .int .i64 (bb0).p.ver, .int .i64 (bb0).sz] 90)) (fun k _ hk => (((Below.refl w.heap.size w).alloc (nl _) _).alloc (by simp) _).block k (by have := HGL.out; omega))
 have hkB : Blk ((w.alloc (.cells #[.string (str (bb0).nm), .int .i64 (bb0).k.t, .int .i64 (bb0).k.c, .int .i64 (bb0).k.e, .int .i64 (bb0).b, .int .i64 (bb0).p.k.t, .int .i64 (bb0).p.k.c, .int .i64 (bb0).p.k.e, .int .i64 (bb0).p.id, .int .i64 (bb0).p.ver, .int .i64 (bb0).sz] 90)).alloc (.cells #[.string (str (bb0).nm), .int .i64 (bb0).k.t, .int .i64 (bb0).k.c, .int .i64 (bb0).k.e, .int .i64 (bb0).b, .int .i64 (bb0).p.k.t, .int .i64 (bb0).p.k.c, .int .i64 (bb0).p.k.e, .int .i64 (bb0).p.id, .int .i64 (bb0).p.ver, .int .i64 (bb0).sz] 90)) w.heap.size 90 #[.string (str []), .int .i64 0, .int .i64 0, .int .i64 0, .int .i64 0, .int .i64 0, .int .i64 0, .int .i64 0, .int .i64 0, .int .i64 0, .int .i64 0] := (Blk.new w 90 #[.string (str (bb0).nm), .int .i64 (bb0).k.t, .int .i64 (bb0).k.c, .int .i64 (bb0).k.e, .int .i64 (bb0).b, .int .i64 (bb0).p.k.t, .int .i64 (bb0).p.k.c, .int .i64 (bb0).p.k.e, .int .i64 (bb0).p.id, .int .i64 (bb0).p.ver, .int .i64 (bb0).sz]).keep (((Below.refl (w.heap.size + 1) _).alloc (by simp) _).block _ (by omega))
 have hkX : Blk ((w.alloc (.cells #[.string (str (bb0).nm), .int .i64 (bb0).k.t, .int .i64 (bb0).k.c, .int .i64 (bb0).k.e, .int .i64 (bb0).b, .int .i64 (bb0).p.k.t, .int .i64 (bb0).p.k.c, .int .i64 (bb0).p.k.e, .int .i64 (bb0).p.id, .int .i64 (bb0).p.ver, .int .i64 (bb0).sz] 90)).alloc (.cells #[.string (str (bb0).nm), .int .i64 (bb0).k.t, .int .i64 (bb0).k.c, .int .i64 (bb0).k.e, .int .i64 (bb0).b, .int .i64 (bb0).p.k.t, .int .i64 (bb0).p.k.c, .int .i64 (bb0).p.k.e, .int .i64 (bb0).p.id, .int .i64 (bb0).p.ver, .int .i64 (bb0).sz] 90)) (w.heap.size + 1) 90 #[.string (str []), .int .i64 0, .int .i64 0, .int .i64 0, .int .i64 0, .int .i64 0, .int .i64 0, .int .i64 0, .int .i64 0, .int .i64 0, .int .i64 0] := by
  have := Blk.new (w.alloc (.cells #[.string (str (bb0).nm), .int .i64 (bb0).k.t, .int .i64 (bb0).k.c, .int .i64 (bb0).k.e, .int .i64 (bb0).b, .int .i64 (bb0).p.k.t, .int .i64 (bb0).p.k.c, .int .i64 (bb0).p.k.e, .int .i64 (bb0).p.id, .int .i64 (bb0).p.ver, .int .i64 (bb0).sz] 90)) 90 #[.string (str (bb0).nm), .int .i64 (bb0).k.t, .int .i64 (bb0).k.c, .int .i64 (bb0).k.e, .int .i64 (bb0).b, .int .i64 (bb0).p.k.t, .int .i64 (bb0).p.k.c, .int .i64 (bb0).p.k.e, .int .i64 (bb0).p.id, .int .i64 (bb0).p.ver, .int .i64 (bb0).sz]
  have e : (w.alloc (.cells #[.string (str (bb0).nm), .int .i64 (bb0).k.t, .int .i64 (bb0).k.c, .int .i64 (bb0).k.e, .int .i64 (bb0).b, .int .i64 (bb0).p.k.t, .int .i64 (bb0).p.k.c, .int .i64 (bb0).p.k.e, .int .i64 (bb0).p.id, .int .i64 (bb0).p.ver, .int .i64 (bb0).sz] 90)).heap.size = w.heap.size + 1 := by simp
  rw [e] at this
  exact this
 have hG2 : w.grownBy ((w.alloc (.cells #[.string (str (bb0).nm), .int .i64 (bb0).k.t, .int .i64 (bb0).k.c, .int .i64 (bb0).k.e, .int .i64 (bb0).b, .int .i64 (bb0).p.k.t, .int .i64 (bb0).p.k.c, .int .i64 (bb0).p.k.e, .int .i64 (bb0).p.id, .int .i64 (bb0).p.ver, .int .i64 (bb0).sz] 90)).alloc (.cells #[.string (str (bb0).nm), .int .i64 (bb0).k.t, .int .i64 (bb0).k.c, .int .i64 (bb0).k.e, .int .i64 (bb0).b, .int .i64 (bb0).p.k.t, .int .i64 (bb0).p.k.c, .int .i64 (bb0).p.k.e, .int .i64 (bb0).p.id, .int .i64 (bb0).p.ver, .int .i64 (bb0).sz] 90)) (some g) := (World.grownBy_alloc w _ _).trans (World.grownBy_alloc _ _ _)
 have hS2 : w.heap.size + 1 < ((w.alloc (.cells #[.string (str (bb0).nm), .int .i64 (bb0).k.t, .int .i64 (bb0).k.c, .int .i64 (bb0).k.e, .int .i64 (bb0).b, .int .i64 (bb0).p.k.t, .int .i64 (bb0).p.k.c, .int .i64 (bb0).p.k.e, .int .i64 (bb0).p.id, .int .i64 (bb0).p.ver, .int .i64 (bb0).sz] 90)).alloc (.cells #[.string (str (bb0).nm), .int .i64 (bb0).k.t, .int .i64 (bb0).k.c, .int .i64 (bb0).k.e, .int .i64 (bb0).b, .int .i64 (bb0).p.k.t, .int .i64 (bb0).p.k.c, .int .i64 (bb0).p.k.e, .int .i64 (bb0).p.id, .int .i64 (bb0).p.ver, .int .i64 (bb0).sz] 90)).heap.size := by simp
 have HKB := hid hkB
 have HKX := hid hkX
 have HG2 := hid hG2
 have hcall := rdT_any _ lo g l hr2
 clear hr2 hkB hkX hG2 hS2
 go_wp2_with fail
 refine hcall.mono ?_
 rintro e w3 ⟨ok, nm, rfl, hg3, h0, h1⟩
 clear hcall
 have HB0 : Hid (w.heap.size ≤ w.heap.size) := hid (nl _)
 obtain ⟨B, hB⟩ : ∃ B, w.heap.size = B := ⟨_, rfl⟩
 rw [hB] at HKB HKX HGL ⊢
 have HBE := hid hB
 have hX3 := HKX.out.keep (hg3.block _ HKX.out.lt (by have := HGL.out; simp; omega))
 have hB3 := HKB.out.keep (hg3.block _ HKB.out.lt (by have := HGL.out; simp; omega))
 have HG3 := hid (HG2.out.trans hg3)
 have HX3 := hid hX3
 have HB3 := hid hB3
 clear hg3 HKX HKB HG2 hB HB0
 have x0 : w3.cell? ⟨B + 1, 0, none⟩ = some (.string (str [])) := (hX3.cell 0).trans rfl
 have y0 : w3.frozen? ⟨B + 1, 0, none⟩ = false := hX3.frozen 0
 cases ok
 · have HN := hid (rdBl_no (h0 rfl))
   clear h0 h1
   have hBq := hB3.keep (w' := w3.setCell ⟨B + 1, 0, none⟩ (.string (str nm))) (keep_set (by omega))
   have HGX : Hid (w.grownBy (w3.setCell ⟨B + 1, 0, none⟩ (.string (str nm))) (some g)) := hid (gr_set HG3.out (by have := HBE.out; omega))
   clear hB3 hX3 HG3 HX3 HB3
   go_wp2_with (refine wpList_storeB rfl _ _ rfl hBq rfl rfl bb0 rfl ?_)
   intro wz hBz hgz
   have HGZ : Hid (w.grownBy wz (some g)) := hid (HGX.out.andThen hgz fun j hj => .inl (by injection hj with hj; have := HBE.out; omega))
   go_wp2
   refine bodyPost_ret (res_B rfl hBz rfl rfl) rfl (REnt.none_ HGZ.out HN.out)
 obtain ⟨r3, hq, hd3⟩ := h1 rfl
 have HT := hid hq
 have HD4 := hid (hd3.keep (w' := w3.setCell ⟨B + 1, 0, none⟩ (.string (str nm))) fun k _ hk => keep_set (by have := HGL.out; omega))
 have HX4 : Hid (Blk (w3.setCell ⟨B + 1, 0, none⟩ (.string (str nm))) (B + 1) 90 #[.string (str nm), .int .i64 0, .int .i64 0, .int .i64 0, .int .i64 0, .int .i64 0, .int .i64 0, .int .i64 0, .int .i64 0, .int .i64 0, .int .i64 0]) := hid (hX3.store 0 _)
 have HB4 : Hid (Blk (w3.setCell ⟨B + 1, 0, none⟩ (.string (str nm))) B 90 #[.string (str []), .int .i64 0, .int .i64 0, .int .i64 0, .int .i64 0, .int .i64 0, .int .i64 0, .int .i64 0, .int .i64 0, .int .i64 0, .int .i64 0]) := hid (hB3.keep (keep_set (by omega)))
 have HG4 : Hid (w.grownBy (w3.setCell ⟨B + 1, 0, none⟩ (.string (str nm))) (some g)) := hid (gr_set HG3.out (by have := HBE.out; omega))
 clear h0 h1 hq hd3 hX3 hB3 HG3 HX3 HB3
 go_wp2_with fail
 clear x0 y0
 generalize w3.setCell ⟨B + 1, 0, none⟩ (.string (str nm)) = w4 at *
 have i0 : ∀ wx : World, (Instr.index 199 (.agg #[.pointer (some ⟨B + 1, 1, none⟩), .pointer (some ⟨B + 1, 2, none⟩), .pointer (some ⟨B + 1, 3, none⟩), .pointer (some ⟨B + 1, 4, none⟩), .pointer (some ⟨B + 1, 8, none⟩), .pointer (some ⟨B + 1, 9, none⟩), .pointer (some ⟨B + 1, 10, none⟩)]) (.int .i64 0)).run Tryz.prog wx = .ok (.pointer (some ⟨B + 1, 1, none⟩)) wx := fun _ => by kernel_rfl
 have i1 : ∀ wx : World, (Instr.index 199 (.agg #[.pointer (some ⟨B + 1, 1, none⟩), .pointer (some ⟨B + 1, 2, none⟩), .pointer (some ⟨B + 1, 3, none⟩), .pointer (some ⟨B + 1, 4, none⟩), .pointer (some ⟨B + 1, 8, none⟩), .pointer (some ⟨B + 1, 9, none⟩), .pointer (some ⟨B + 1, 10, none⟩)]) (.int .i64 1)).run Tryz.prog wx = .ok (.pointer (some ⟨B + 1, 2, none⟩)) wx := fun _ => by kernel_rfl
 have i2 : ∀ wx : World, (Instr.index 199 (.agg #[.pointer (some ⟨B + 1, 1, none⟩), .pointer (some ⟨B + 1, 2, none⟩), .pointer (some ⟨B + 1, 3, none⟩), .pointer (some ⟨B + 1, 4, none⟩), .pointer (some ⟨B + 1, 8, none⟩), .pointer (some ⟨B + 1, 9, none⟩), .pointer (some ⟨B + 1, 10, none⟩)]) (.int .i64 2)).run Tryz.prog wx = .ok (.pointer (some ⟨B + 1, 3, none⟩)) wx := fun _ => by kernel_rfl
 have i3 : ∀ wx : World, (Instr.index 199 (.agg #[.pointer (some ⟨B + 1, 1, none⟩), .pointer (some ⟨B + 1, 2, none⟩), .pointer (some ⟨B + 1, 3, none⟩), .pointer (some ⟨B + 1, 4, none⟩), .pointer (some ⟨B + 1, 8, none⟩), .pointer (some ⟨B + 1, 9, none⟩), .pointer (some ⟨B + 1, 10, none⟩)]) (.int .i64 3)).run Tryz.prog wx = .ok (.pointer (some ⟨B + 1, 4, none⟩)) wx := fun _ => by kernel_rfl
 have i4 : ∀ wx : World, (Instr.index 199 (.agg #[.pointer (some ⟨B + 1, 1, none⟩), .pointer (some ⟨B + 1, 2, none⟩), .pointer (some ⟨B + 1, 3, none⟩), .pointer (some ⟨B + 1, 4, none⟩), .pointer (some ⟨B + 1, 8, none⟩), .pointer (some ⟨B + 1, 9, none⟩), .pointer (some ⟨B + 1, 10, none⟩)]) (.int .i64 4)).run Tryz.prog wx = .ok (.pointer (some ⟨B + 1, 8, none⟩)) wx := fun _ => by kernel_rfl
 have i5 : ∀ wx : World, (Instr.index 199 (.agg #[.pointer (some ⟨B + 1, 1, none⟩), .pointer (some ⟨B + 1, 2, none⟩), .pointer (some ⟨B + 1, 3, none⟩), .pointer (some ⟨B + 1, 4, none⟩), .pointer (some ⟨B + 1, 8, none⟩), .pointer (some ⟨B + 1, 9, none⟩), .pointer (some ⟨B + 1, 10, none⟩)]) (.int .i64 5)).run Tryz.prog wx = .ok (.pointer (some ⟨B + 1, 9, none⟩)) wx := fun _ => by kernel_rfl
 have i6 : ∀ wx : World, (Instr.index 199 (.agg #[.pointer (some ⟨B + 1, 1, none⟩), .pointer (some ⟨B + 1, 2, none⟩), .pointer (some ⟨B + 1, 3, none⟩), .pointer (some ⟨B + 1, 4, none⟩), .pointer (some ⟨B + 1, 8, none⟩), .pointer (some ⟨B + 1, 9, none⟩), .pointer (some ⟨B + 1, 10, none⟩)]) (.int .i64 6)).run Tryz.prog wx = .ok (.pointer (some ⟨B + 1, 10, none⟩)) wx := fun _ => by kernel_rfl
 refine wp_loop_rounds 8 ?_
 rw [rounds_succ]
 have hcall := rdI_any w4 lo g r3 HD4.out
 go_wp2_with fail
 refine hcall.mono ?_
 rintro e w5 ⟨ok, x0, rfl, hg, h0, h1⟩
 have hX5 := HX4.out.keep (hg.block _ HX4.out.lt (by have := HGL.out; simp; omega))
 have hB5 := HB4.out.keep (hg.block _ HB4.out.lt (by have := HGL.out; simp; omega))
 have HG5 := hid (HG4.out.trans hg)
 have HX5 := hid hX5
 have HB5 := hid hB5
 clear hcall hg HX4 HB4 HG4 HD4 i0
 have z0 : w5.cell? ⟨B + 1, 1, none⟩ = some (.int .i64 0) := (hX5.cell 1).trans rfl
 have y0 : w5.frozen? ⟨B + 1, 1, none⟩ = false := hX5.frozen 1
 cases ok
 · have HN := hid (rdBl_no2 HT.out (by simp [rdIs, h0 rfl]))
   clear h0 h1
   have hBq := hB5.keep (w' := w5.setCell ⟨B + 1, 1, none⟩ (.int .i64 x0)) (keep_set (by omega))
   have HGX : Hid (w.grownBy (w5.setCell ⟨B + 1, 1, none⟩ (.int .i64 x0)) (some g)) := hid (gr_set HG5.out (by have := HBE.out; omega))
   clear hB5 hX5 HG5 HX5 HB5
   go_wp2_with (refine wpList_storeB rfl _ _ rfl hBq rfl rfl bb0 rfl ?_)
   intro wz hBz hgz
   have HGZ : Hid (w.grownBy wz (some g)) := hid (HGX.out.andThen hgz fun j hj => .inl (by injection hj with hj; have := HBE.out; omega))
   go_wp2
   refine bodyPost_ret (res_B rfl hBz rfl rfl) rfl (REnt.none_ HGZ.out HN.out)
 obtain ⟨r4, hq, hd⟩ := h1 rfl
 have H0 := hid hq
 have HD6 := hid (hd.keep (w' := w5.setCell ⟨B + 1, 1, none⟩ (.int .i64 x0)) fun k _ hk => keep_set (by have := HGL.out; omega))
 have HX6 : Hid (Blk (w5.setCell ⟨B + 1, 1, none⟩ (.int .i64 x0)) (B + 1) 90 #[.string (str nm), .int .i64 x0, .int .i64 0, .int .i64 0, .int .i64 0, .int .i64 0, .int .i64 0, .int .i64 0, .int .i64 0, .int .i64 0, .int .i64 0]) := hid (hX5.store 1 _)
 have HB6 : Hid (Blk (w5.setCell ⟨B + 1, 1, none⟩ (.int .i64 x0)) B 90 #[.string (str []), .int .i64 0, .int .i64 0, .int .i64 0, .int .i64 0, .int .i64 0, .int .i64 0, .int .i64 0, .int .i64 0, .int .i64 0, .int .i64 0]) := hid (hB5.keep (keep_set (by omega)))
 have HG6 : Hid (w.grownBy (w5.setCell ⟨B + 1, 1, none⟩ (.int .i64 x0)) (some g)) := hid (gr_set HG5.out (by have := HBE.out; omega))
 clear h0 h1 hq hd hX5 hB5 HG5 HX5 HB5
 go_wp2_with fail
 clear z0 y0
 generalize w5.setCell ⟨B + 1, 1, none⟩ (.int .i64 x0) = w6 at *
 rw [rounds_succ]
 have hcall := rdI_any w6 lo g r4 HD6.out
 go_wp2_with fail
 refine hcall.mono ?_
 rintro e w7 ⟨ok, x1, rfl, hg, h0, h1⟩
 have hX7 := HX6.out.keep (hg.block _ HX6.out.lt (by have := HGL.out; simp; omega))
 have hB7 := HB6.out.keep (hg.block _ HB6.out.lt (by have := HGL.out; simp; omega))
 have HG7 := hid (HG6.out.trans hg)
 have HX7 := hid hX7
 have HB7 := hid hB7
 clear hcall hg HX6 HB6 HG6 HD6 i1
 have z0 : w7.cell? ⟨B + 1, 2, none⟩ = some (.int .i64 0) := (hX7.cell 2).trans rfl
 have y0 : w7.frozen? ⟨B + 1, 2, none⟩ = false := hX7.frozen 2
 cases ok
 · have HN := hid (rdBl_no2 HT.out (by simp [rdIs, H0.out, h0 rfl]))
   clear h0 h1
   have hBq := hB7.keep (w' := w7.setCell ⟨B + 1, 2, none⟩ (.int .i64 x1)) (keep_set (by omega))
   have HGX : Hid (w.grownBy (w7.setCell ⟨B + 1, 2, none⟩ (.int .i64 x1)) (some g)) := hid (gr_set HG7.out (by have := HBE.out; omega))
   clear hB7 hX7 HG7 HX7 HB7
   go_wp2_with (refine wpList_storeB rfl _ _ rfl hBq rfl rfl bb0 rfl ?_)
   intro wz hBz hgz
   have HGZ : Hid (w.grownBy wz (some g)) := hid (HGX.out.andThen hgz fun j hj => .inl (by injection hj with hj; have := HBE.out; omega))
   go_wp2
   refine bodyPost_ret (res_B rfl hBz rfl rfl) rfl (REnt.none_ HGZ.out HN.out)
 obtain ⟨r5, hq, hd⟩ := h1 rfl
 have H1 := hid hq
 have HD8 := hid (hd.keep (w' := w7.setCell ⟨B + 1, 2, none⟩ (.int .i64 x1)) fun k _ hk => keep_set (by have := HGL.out; omega))
 have HX8 : Hid (Blk (w7.setCell ⟨B + 1, 2, none⟩ (.int .i64 x1)) (B + 1) 90 #[.string (str nm), .int .i64 x0, .int .i64 x1, .int .i64 0, .int .i64 0, .int .i64 0, .int .i64 0, .int .i64 0, .int .i64 0, .int .i64 0, .int .i64 0]) := hid (hX7.store 2 _)
 have HB8 : Hid (Blk (w7.setCell ⟨B + 1, 2, none⟩ (.int .i64 x1)) B 90 #[.string (str []), .int .i64 0, .int .i64 0, .int .i64 0, .int .i64 0, .int .i64 0, .int .i64 0, .int .i64 0, .int .i64 0, .int .i64 0, .int .i64 0]) := hid (hB7.keep (keep_set (by omega)))
 have HG8 : Hid (w.grownBy (w7.setCell ⟨B + 1, 2, none⟩ (.int .i64 x1)) (some g)) := hid (gr_set HG7.out (by have := HBE.out; omega))
 clear h0 h1 hq hd hX7 hB7 HG7 HX7 HB7
 go_wp2_with fail
 clear z0 y0
 generalize w7.setCell ⟨B + 1, 2, none⟩ (.int .i64 x1) = w8 at *
 rw [rounds_succ]
 have hcall := rdI_any w8 lo g r5 HD8.out
 go_wp2_with fail
 refine hcall.mono ?_
 rintro e w9 ⟨ok, x2, rfl, hg, h0, h1⟩
 have hX9 := HX8.out.keep (hg.block _ HX8.out.lt (by have := HGL.out; simp; omega))
 have hB9 := HB8.out.keep (hg.block _ HB8.out.lt (by have := HGL.out; simp; omega))
 have HG9 := hid (HG8.out.trans hg)
 have HX9 := hid hX9
 have HB9 := hid hB9
 clear hcall hg HX8 HB8 HG8 HD8 i2
 have z0 : w9.cell? ⟨B + 1, 3, none⟩ = some (.int .i64 0) := (hX9.cell 3).trans rfl
 have y0 : w9.frozen? ⟨B + 1, 3, none⟩ = false := hX9.frozen 3
 cases ok
 · have HN := hid (rdBl_no2 HT.out (by simp [rdIs, H0.out, H1.out, h0 rfl]))
   clear h0 h1
   have hBq := hB9.keep (w' := w9.setCell ⟨B + 1, 3, none⟩ (.int .i64 x2)) (keep_set (by omega))
   have HGX : Hid (w.grownBy (w9.setCell ⟨B + 1, 3, none⟩ (.int .i64 x2)) (some g)) := hid (gr_set HG9.out (by have := HBE.out; omega))
   clear hB9 hX9 HG9 HX9 HB9
   go_wp2_with (refine wpList_storeB rfl _ _ rfl hBq rfl rfl bb0 rfl ?_)
   intro wz hBz hgz
   have HGZ : Hid (w.grownBy wz (some g)) := hid (HGX.out.andThen hgz fun j hj => .inl (by injection hj with hj; have := HBE.out; omega))
   go_wp2
   refine bodyPost_ret (res_B rfl hBz rfl rfl) rfl (REnt.none_ HGZ.out HN.out)
 obtain ⟨r6, hq, hd⟩ := h1 rfl
 have H2 := hid hq
 have HD10 := hid (hd.keep (w' := w9.setCell ⟨B + 1, 3, none⟩ (.int .i64 x2)) fun k _ hk => keep_set (by have := HGL.out; omega))
 have HX10 : Hid (Blk (w9.setCell ⟨B + 1, 3, none⟩ (.int .i64 x2)) (B + 1) 90 #[.string (str nm), .int .i64 x0, .int .i64 x1, .int .i64 x2, .int .i64 0, .int .i64 0, .int .i64 0, .int .i64 0, .int .i64 0, .int .i64 0, .int .i64 0]) := hid (hX9.store 3 _)
 have HB10 : Hid (Blk (w9.setCell ⟨B + 1, 3, none⟩ (.int .i64 x2)) B 90 #[.string (str []), .int .i64 0, .int .i64 0, .int .i64 0, .int .i64 0, .int .i64 0, .int .i64 0, .int .i64 0, .int .i64 0, .int .i64 0, .int .i64 0]) := hid (hB9.keep (keep_set (by omega)))
 have HG10 : Hid (w.grownBy (w9.setCell ⟨B + 1, 3, none⟩ (.int .i64 x2)) (some g)) := hid (gr_set HG9.out (by have := HBE.out; omega))
 clear h0 h1 hq hd hX9 hB9 HG9 HX9 HB9
 go_wp2_with fail
 clear z0 y0
 generalize w9.setCell ⟨B + 1, 3, none⟩ (.int .i64 x2) = w10 at *
 rw [rounds_succ]
 have hcall := rdI_any w10 lo g r6 HD10.out
 go_wp2_with fail
 refine hcall.mono ?_
 rintro e w11 ⟨ok, x3, rfl, hg, h0, h1⟩
 have hX11 := HX10.out.keep (hg.block _ HX10.out.lt (by have := HGL.out; simp; omega))
 have hB11 := HB10.out.keep (hg.block _ HB10.out.lt (by have := HGL.out; simp; omega))
 have HG11 := hid (HG10.out.trans hg)
 have HX11 := hid hX11
 have HB11 := hid hB11
 clear hcall hg HX10 HB10 HG10 HD10 i3
 have z0 : w11.cell? ⟨B + 1, 4, none⟩ = some (.int .i64 0) := (hX11.cell 4).trans rfl
 have y0 : w11.frozen? ⟨B + 1, 4, none⟩ = false := hX11.frozen 4
 cases ok
 · have HN := hid (rdBl_no2 HT.out (by simp [rdIs, H0.out, H1.out, H2.out, h0 rfl]))
   clear h0 h1
   have hBq := hB11.keep (w' := w11.setCell ⟨B + 1, 4, none⟩ (.int .i64 x3)) (keep_set (by omega))
   have HGX : Hid (w.grownBy (w11.setCell ⟨B + 1, 4, none⟩ (.int .i64 x3)) (some g)) := hid (gr_set HG11.out (by have := HBE.out; omega))
   clear hB11 hX11 HG11 HX11 HB11
   go_wp2_with (refine wpList_storeB rfl _ _ rfl hBq rfl rfl bb0 rfl ?_)
   intro wz hBz hgz
   have HGZ : Hid (w.grownBy wz (some g)) := hid (HGX.out.andThen hgz fun j hj => .inl (by injection hj with hj; have := HBE.out; omega))
   go_wp2
   refine bodyPost_ret (res_B rfl hBz rfl rfl) rfl (REnt.none_ HGZ.out HN.out)
 obtain ⟨r7, hq, hd⟩ := h1 rfl
 have H3 := hid hq
 have HD12 := hid (hd.keep (w' := w11.setCell ⟨B + 1, 4, none⟩ (.int .i64 x3)) fun k _ hk => keep_set (by have := HGL.out; omega))
 have HX12 : Hid (Blk (w11.setCell ⟨B + 1, 4, none⟩ (.int .i64 x3)) (B + 1) 90 #[.string (str nm), .int .i64 x0, .int .i64 x1, .int .i64 x2, .int .i64 x3, .int .i64 0, .int .i64 0, .int .i64 0, .int .i64 0, .int .i64 0, .int .i64 0]) := hid (hX11.store 4 _)
 have HB12 : Hid (Blk (w11.setCell ⟨B + 1, 4, none⟩ (.int .i64 x3)) B 90 #[.string (str []), .int .i64 0, .int .i64 0, .int .i64 0, .int .i64 0, .int .i64 0, .int .i64 0, .int .i64 0, .int .i64 0, .int .i64 0, .int .i64 0]) := hid (hB11.keep (keep_set (by omega)))
 have HG12 : Hid (w.grownBy (w11.setCell ⟨B + 1, 4, none⟩ (.int .i64 x3)) (some g)) := hid (gr_set HG11.out (by have := HBE.out; omega))
 clear h0 h1 hq hd hX11 hB11 HG11 HX11 HB11
 go_wp2_with fail
 clear z0 y0
 generalize w11.setCell ⟨B + 1, 4, none⟩ (.int .i64 x3) = w12 at *
 rw [rounds_succ]
 have hcall := rdI_any w12 lo g r7 HD12.out
 go_wp2_with fail
 refine hcall.mono ?_
 rintro e w13 ⟨ok, x4, rfl, hg, h0, h1⟩
 have hX13 := HX12.out.keep (hg.block _ HX12.out.lt (by have := HGL.out; simp; omega))
 have hB13 := HB12.out.keep (hg.block _ HB12.out.lt (by have := HGL.out; simp; omega))
 have HG13 := hid (HG12.out.trans hg)
 have HX13 := hid hX13
 have HB13 := hid hB13
 clear hcall hg HX12 HB12 HG12 HD12 i4
 have z0 : w13.cell? ⟨B + 1, 8, none⟩ = some (.int .i64 0) := (hX13.cell 8).trans rfl
 have y0 : w13.frozen? ⟨B + 1, 8, none⟩ = false := hX13.frozen 8
 cases ok
 · have HN := hid (rdBl_no2 HT.out (by simp [rdIs, H0.out, H1.out, H2.out, H3.out, h0 rfl]))
   clear h0 h1
   have hBq := hB13.keep (w' := w13.setCell ⟨B + 1, 8, none⟩ (.int .i64 x4)) (keep_set (by omega))
   have HGX : Hid (w.grownBy (w13.setCell ⟨B + 1, 8, none⟩ (.int .i64 x4)) (some g)) := hid (gr_set HG13.out (by have := HBE.out; omega))
   clear hB13 hX13 HG13 HX13 HB13
   go_wp2_with (refine wpList_storeB rfl _ _ rfl hBq rfl rfl bb0 rfl ?_)
   intro wz hBz hgz
   have HGZ : Hid (w.grownBy wz (some g)) := hid (HGX.out.andThen hgz fun j hj => .inl (by injection hj with hj; have := HBE.out; omega))
   go_wp2
   refine bodyPost_ret (res_B rfl hBz rfl rfl) rfl (REnt.none_ HGZ.out HN.out)
 obtain ⟨r8, hq, hd⟩ := h1 rfl
 have H4 := hid hq
 have HD14 := hid (hd.keep (w' := w13.setCell ⟨B + 1, 8, none⟩ (.int .i64 x4)) fun k _ hk => keep_set (by have := HGL.out; omega))
 have HX14 : Hid (Blk (w13.setCell ⟨B + 1, 8, none⟩ (.int .i64 x4)) (B + 1) 90 #[.string (str nm), .int .i64 x0, .int .i64 x1, .int .i64 x2, .int .i64 x3, .int .i64 0, .int .i64 0, .int .i64 0, .int .i64 x4, .int .i64 0, .int .i64 0]) := hid (hX13.store 8 _)
 have HB14 : Hid (Blk (w13.setCell ⟨B + 1, 8, none⟩ (.int .i64 x4)) B 90 #[.string (str []), .int .i64 0, .int .i64 0, .int .i64 0, .int .i64 0, .int .i64 0, .int .i64 0, .int .i64 0, .int .i64 0, .int .i64 0, .int .i64 0]) := hid (hB13.keep (keep_set (by omega)))
 have HG14 : Hid (w.grownBy (w13.setCell ⟨B + 1, 8, none⟩ (.int .i64 x4)) (some g)) := hid (gr_set HG13.out (by have := HBE.out; omega))
 clear h0 h1 hq hd hX13 hB13 HG13 HX13 HB13
 go_wp2_with fail
 clear z0 y0
 generalize w13.setCell ⟨B + 1, 8, none⟩ (.int .i64 x4) = w14 at *
 rw [rounds_succ]
 have hcall := rdI_any w14 lo g r8 HD14.out
 go_wp2_with fail
 refine hcall.mono ?_
 rintro e w15 ⟨ok, x5, rfl, hg, h0, h1⟩
 have hX15 := HX14.out.keep (hg.block _ HX14.out.lt (by have := HGL.out; simp; omega))
 have hB15 := HB14.out.keep (hg.block _ HB14.out.lt (by have := HGL.out; simp; omega))
 have HG15 := hid (HG14.out.trans hg)
 have HX15 := hid hX15
 have HB15 := hid hB15
 clear hcall hg HX14 HB14 HG14 HD14 i5
 have z0 : w15.cell? ⟨B + 1, 9, none⟩ = some (.int .i64 0) := (hX15.cell 9).trans rfl
 have y0 : w15.frozen? ⟨B + 1, 9, none⟩ = false := hX15.frozen 9
 cases ok
 · have HN := hid (rdBl_no2 HT.out (by simp [rdIs, H0.out, H1.out, H2.out, H3.out, H4.out, h0 rfl]))
   clear h0 h1
   have hBq := hB15.keep (w' := w15.setCell ⟨B + 1, 9, none⟩ (.int .i64 x5)) (keep_set (by omega))
   have HGX : Hid (w.grownBy (w15.setCell ⟨B + 1, 9, none⟩ (.int .i64 x5)) (some g)) := hid (gr_set HG15.out (by have := HBE.out; omega))
   clear hB15 hX15 HG15 HX15 HB15
   go_wp2_with (refine wpList_storeB rfl _ _ rfl hBq rfl rfl bb0 rfl ?_)
   intro wz hBz hgz
   have HGZ : Hid (w.grownBy wz (some g)) := hid (HGX.out.andThen hgz fun j hj => .inl (by injection hj with hj; have := HBE.out; omega))
   go_wp2
   refine bodyPost_ret (res_B rfl hBz rfl rfl) rfl (REnt.none_ HGZ.out HN.out)
 obtain ⟨r9, hq, hd⟩ := h1 rfl
 have H5 := hid hq
 have HD16 := hid (hd.keep (w' := w15.setCell ⟨B + 1, 9, none⟩ (.int .i64 x5)) fun k _ hk => keep_set (by have := HGL.out; omega))
 have HX16 : Hid (Blk (w15.setCell ⟨B + 1, 9, none⟩ (.int .i64 x5)) (B + 1) 90 #[.string (str nm), .int .i64 x0, .int .i64 x1, .int .i64 x2, .int .i64 x3, .int .i64 0, .int .i64 0, .int .i64 0, .int .i64 x4, .int .i64 x5, .int .i64 0]) := hid (hX15.store 9 _)
 have HB16 : Hid (Blk (w15.setCell ⟨B + 1, 9, none⟩ (.int .i64 x5)) B 90 #[.string (str []), .int .i64 0, .int .i64 0, .int .i64 0, .int .i64 0, .int .i64 0, .int .i64 0, .int .i64 0, .int .i64 0, .int .i64 0, .int .i64 0]) := hid (hB15.keep (keep_set (by omega)))
 have HG16 : Hid (w.grownBy (w15.setCell ⟨B + 1, 9, none⟩ (.int .i64 x5)) (some g)) := hid (gr_set HG15.out (by have := HBE.out; omega))
 clear h0 h1 hq hd hX15 hB15 HG15 HX15 HB15
 go_wp2_with fail
 clear z0 y0
 generalize w15.setCell ⟨B + 1, 9, none⟩ (.int .i64 x5) = w16 at *
 rw [rounds_succ]
 have hcall := rdI_any w16 lo g r9 HD16.out
 go_wp2_with fail
 refine hcall.mono ?_
 rintro e w17 ⟨ok, x6, rfl, hg, h0, h1⟩
 have hX17 := HX16.out.keep (hg.block _ HX16.out.lt (by have := HGL.out; simp; omega))
 have hB17 := HB16.out.keep (hg.block _ HB16.out.lt (by have := HGL.out; simp; omega))
 have HG17 := hid (HG16.out.trans hg)
 have HX17 := hid hX17
 have HB17 := hid hB17
 clear hcall hg HX16 HB16 HG16 HD16 i6
 have z0 : w17.cell? ⟨B + 1, 10, none⟩ = some (.int .i64 0) := (hX17.cell 10).trans rfl
 have y0 : w17.frozen? ⟨B + 1, 10, none⟩ = false := hX17.frozen 10
 cases ok
 · have HN := hid (rdBl_no2 HT.out (by simp [rdIs, H0.out, H1.out, H2.out, H3.out, H4.out, H5.out, h0 rfl]))
   clear h0 h1
   have hBq := hB17.keep (w' := w17.setCell ⟨B + 1, 10, none⟩ (.int .i64 x6)) (keep_set (by omega))
   have HGX : Hid (w.grownBy (w17.setCell ⟨B + 1, 10, none⟩ (.int .i64 x6)) (some g)) := hid (gr_set HG17.out (by have := HBE.out; omega))
   clear hB17 hX17 HG17 HX17 HB17
   go_wp2_with (refine wpList_storeB rfl _ _ rfl hBq rfl rfl bb0 rfl ?_)
   intro wz hBz hgz
   have HGZ : Hid (w.grownBy wz (some g)) := hid (HGX.out.andThen hgz fun j hj => .inl (by injection hj with hj; have := HBE.out; omega))
   go_wp2
   refine bodyPost_ret (res_B rfl hBz rfl rfl) rfl (REnt.none_ HGZ.out HN.out)
 obtain ⟨r10, hq, hd⟩ := h1 rfl
 have H6 := hid hq
 have HD18 := hid (hd.keep (w' := w17.setCell ⟨B + 1, 10, none⟩ (.int .i64 x6)) fun k _ hk => keep_set (by have := HGL.out; omega))
 have HX18 : Hid (Blk (w17.setCell ⟨B + 1, 10, none⟩ (.int .i64 x6)) (B + 1) 90 #[.string (str nm), .int .i64 x0, .int .i64 x1, .int .i64 x2, .int .i64 x3, .int .i64 0, .int .i64 0, .int .i64 0, .int .i64 x4, .int .i64 x5, .int .i64 x6]) := hid (hX17.store 10 _)
 have HB18 : Hid (Blk (w17.setCell ⟨B + 1, 10, none⟩ (.int .i64 x6)) B 90 #[.string (str []), .int .i64 0, .int .i64 0, .int .i64 0, .int .i64 0, .int .i64 0, .int .i64 0, .int .i64 0, .int .i64 0, .int .i64 0, .int .i64 0]) := hid (hB17.keep (keep_set (by omega)))
 have HG18 : Hid (w.grownBy (w17.setCell ⟨B + 1, 10, none⟩ (.int .i64 x6)) (some g)) := hid (gr_set HG17.out (by have := HBE.out; omega))
 clear h0 h1 hq hd hX17 hB17 HG17 HX17 HB17
 go_wp2_with fail
 clear z0 y0
 generalize w17.setCell ⟨B + 1, 10, none⟩ (.int .i64 x6) = w18 at *
 rw [rounds_succ]
 have hX18 := HX18.out
 obtain ⟨c0, c1, c2, c3, c4, c5, c6, c7, c8, c9, c10⟩ : w18.cell? ⟨B + 1, 0, none⟩ = some (.string (str nm)) ∧ w18.cell? ⟨B + 1, 1, none⟩ = some (.int .i64 x0) ∧ w18.cell? ⟨B + 1, 2, none⟩ = some (.int .i64 x1) ∧ w18.cell? ⟨B + 1, 3, none⟩ = some (.int .i64 x2) ∧ w18.cell? ⟨B + 1, 4, none⟩ = some (.int .i64 x3) ∧ w18.cell? ⟨B + 1, 5, none⟩ = some (.int .i64 0) ∧ w18.cell? ⟨B + 1, 6, none⟩ = some (.int .i64 0) ∧ w18.cell? ⟨B + 1, 7, none⟩ = some (.int .i64 0) ∧ w18.cell? ⟨B + 1, 8, none⟩ = some (.int .i64 x4) ∧ w18.cell? ⟨B + 1, 9, none⟩ = some (.int .i64 x5) ∧ w18.cell? ⟨B + 1, 10, none⟩ = some (.int .i64 x6) := ⟨(hX18.cell 0).trans rfl, (hX18.cell 1).trans rfl, (hX18.cell 2).trans rfl, (hX18.cell 3).trans rfl, (hX18.cell 4).trans rfl, (hX18.cell 5).trans rfl, (hX18.cell 6).trans rfl, (hX18.cell 7).trans rfl, (hX18.cell 8).trans rfl, (hX18.cell 9).trans rfl, (hX18.cell 10).trans rfl⟩
 have y5 : w18.frozen? ⟨B + 1, 5, none⟩ = false := hX18.frozen 5
 have y6 : w18.frozen? ⟨B + 1, 6, none⟩ = false := hX18.frozen 6
 have y7 : w18.frozen? ⟨B + 1, 7, none⟩ = false := hX18.frozen 7
 have HY : Hid (rdBl l = some ((⟨nm, ⟨x0, x1, x2⟩, x3, ⟨⟨x0, x1, x2⟩, x4, x5⟩, x6⟩ : Bb), r10)) := hid (rdBl_yes HT.out (by simp [rdIs, H0.out, H1.out, H2.out, H3.out, H4.out, H5.out, H6.out]))
 have HD19 := hid (HD18.out.keep (w' := ((w18.setCell ⟨B + 1, 5, none⟩ (.int .i64 x0)).setCell ⟨B + 1, 6, none⟩ (.int .i64 x1)).setCell ⟨B + 1, 7, none⟩ (.int .i64 x2)) fun k _ hk => (keep_set (by have := HGL.out; omega)).trans ((keep_set (by have := HGL.out; omega)).trans (keep_set (by have := HGL.out; omega))))
 have HX19 : Hid (Blk (((w18.setCell ⟨B + 1, 5, none⟩ (.int .i64 x0)).setCell ⟨B + 1, 6, none⟩ (.int .i64 x1)).setCell ⟨B + 1, 7, none⟩ (.int .i64 x2)) (B + 1) 90 #[.string (str nm), .int .i64 x0, .int .i64 x1, .int .i64 x2, .int .i64 x3, .int .i64 x0, .int .i64 x1, .int .i64 x2, .int .i64 x4, .int .i64 x5, .int .i64 x6]) := hid (((hX18.store 5 _).store 6 _).store 7 _)
 have HB19 : Hid (Blk (((w18.setCell ⟨B + 1, 5, none⟩ (.int .i64 x0)).setCell ⟨B + 1, 6, none⟩ (.int .i64 x1)).setCell ⟨B + 1, 7, none⟩ (.int .i64 x2)) B 90 #[.string (str []), .int .i64 0, .int .i64 0, .int .i64 0, .int .i64 0, .int .i64 0, .int .i64 0, .int .i64 0, .int .i64 0, .int .i64 0, .int .i64 0]) := hid (HB18.out.keep ((keep_set (by omega)).trans ((keep_set (by omega)).trans (keep_set (by omega)))))
 have HG19 : Hid (w.grownBy (((w18.setCell ⟨B + 1, 5, none⟩ (.int .i64 x0)).setCell ⟨B + 1, 6, none⟩ (.int .i64 x1)).setCell ⟨B + 1, 7, none⟩ (.int .i64 x2)) (some g)) := hid (gr_set (gr_set (gr_set HG18.out (by have := HBE.out; omega)) (by have := HBE.out; omega)) (by have := HBE.out; omega))
 clear hX18 HX18 HB18 HG18 HD18
 go_wp2_with fail
 clear c0 c1 c2 c3 c4 c5 c6 c7 c8 c9 c10 y5 y6 y7
 generalize ((w18.setCell ⟨B + 1, 5, none⟩ (.int .i64 x0)).setCell ⟨B + 1, 6, none⟩ (.int .i64 x1)).setCell ⟨B + 1, 7, none⟩ (.int .i64 x2) = w19 at *
 obtain ⟨y, hy⟩ : ∃ y : Bb, y = (⟨nm, ⟨x0, x1, x2⟩, x3, ⟨⟨x0, x1, x2⟩, x4, x5⟩, x6⟩ : Bb) := ⟨_, rfl⟩
 have HXY : Hid (Blk w19 (B + 1) 90 #[.string (str (y).nm), .int .i64 (y).k.t, .int .i64 (y).k.c, .int .i64 (y).k.e, .int .i64 (y).b, .int .i64 (y).p.k.t, .int .i64 (y).p.k.c, .int .i64 (y).p.k.e, .int .i64 (y).p.id, .int .i64 (y).p.ver, .int .i64 (y).sz]) := hid (by rw [hy]; exact HX19.out)
 have HYK : Hid (y.p.k = y.k) := hid (by rw [hy])
 rw [← hy] at HY
 clear hy HX19
 have HBX : Hid (B < w19.heap.size) := hid HB19.out.lt
 go_wp2_with fail
 have HXD : Hid (Blk w19.drew (B + 1) 90 #[.string (str (y).nm), .int .i64 (y).k.t, .int .i64 (y).k.c, .int .i64 (y).k.e, .int .i64 (y).b, .int .i64 (y).p.k.t, .int .i64 (y).p.k.c, .int .i64 (y).p.k.e, .int .i64 (y).p.id, .int .i64 (y).p.ver, .int .i64 (y).sz]) := hid HXY.out
 have HBD : Hid (Blk w19.drew B 90 #[.string (str []), .int .i64 0, .int .i64 0, .int .i64 0, .int .i64 0, .int .i64 0, .int .i64 0, .int .i64 0, .int .i64 0, .int .i64 0, .int .i64 0]) := hid HB19.out
 have HGD : Hid (w.grownBy w19.drew (some g)) := hid (HG19.out.andThen (⟨rfl, rfl, rfl, nl _, fun _ _ _ => rfl⟩ : w19.grownBy w19.drew none) (fun j hj => by cases hj))
 have HDD := hid (HD19.out.keep (w' := w19.drew) fun _ _ _ => rfl)
 clear HXY HB19 HG19 HD19
 refine wp_region_held_drew (S := fun wx => Blk wx (B + 1) 90 #[.string (str (y).nm), .int .i64 (y).k.t, .int .i64 (y).k.c, .int .i64 (y).k.e, .int .i64 (y).b, .int .i64 (y).p.k.t, .int .i64 (y).p.k.c, .int .i64 (y).p.k.e, .int .i64 (y).p.id, .int .i64 (y).p.ver, .int .i64 (y).sz]) (by kernel_rfl) HXD.out (fun HS => ?_)
 generalize w19.drew = w20 at *
 refine qT 0 ?v0 ?y0 HS ?r0
 case y0 =>
  refine qI fun wS hSw => ?_
  refine Eq.trans (exec_loadB (.tmp 4) ?_ ?_ hSw) ?_
  all_goals rfl
 try simp only [Act.put, zA]
 refine qT 1 ?v1 ?y1 HS ?r1
 case y1 =>
  refine qI fun wS hSw => ?_
  refine Eq.trans (exec_loadB (.tmp 4) ?_ ?_ hSw) ?_
  all_goals rfl
 try simp only [Act.put, zA]
 refine qR 2 fun K hK => ?_
 go_simp
 refine (rightBlob_c y w20).mono ?_
 rintro e wa ⟨rfl, hba⟩
 have HXa := hid (HXD.out.keep (hba.block _ HXD.out.lt))
 have HBa := hid (HBD.out.keep (hba.block _ HBD.out.lt))
 have HGa : Hid (w.grownBy wa (some g)) := hid (HGD.out.andThen (grown_below_row hba) (fun j hj => by cases hj))
 have HDa := hid (HDD.out.keep (w' := wa) fun k _ hk => hba.block k (by have := HXD.out.lt; have := HGL.out; omega))
 clear hba
 refine hK.out _ _ HXa.out (fun HS => ?_)
 clear hK K
 try simp only [Act.put, zA]
 refine qR 3 fun K hK => ?_
 refine wp_storeB _ _ rfl HBa.out rfl rfl y rfl ?_
 intro wz hBz hgz
 have HBZ := hid hBz
 have HXZ := hid (HXa.out.keep (hgz.block _ HXa.out.lt (by simp)))
 have HGZ : Hid (w.grownBy wz (some g)) := hid (HGa.out.andThen hgz fun j hj => .inl (by injection hj with hj; have := HBE.out; omega))
 have HDZ := hid (HDa.out.keep (w' := wz) fun k _ hk => hgz.block k (by have := HXa.out.lt; have := HGL.out; omega) (by have := HGL.out; simp; omega))
 clear hBz hgz
 refine hK.out _ _ HXZ.out (fun HS => ?_)
 clear hK K
 try simp only [Act.put]
 refine qT 4 ?vc4 ?yc4 HS ?rc4
 case yc4 => refine qI fun wS hSw => ?_; go_simp; try with_reducible rfl
 try simp only [Act.put, zA]
 refine qD ?_
 clear HS
 go_wp2
 refine bodyPost_ret (res_B rfl HBZ.out rfl rfl) rfl ?_
 refine ⟨decide (bbR y), y, rfl, HGZ.out, fun h y' r' e => ?_, fun h => ⟨r10, HY.out, (bbR_ok HYK.out).2 (of_decide_eq_true h), HDZ.out⟩⟩
 rw [HY.out] at e
 injection e with e
 injection e with e1 _
 rw [← e1, bbR_ok HYK.out]
 exact of_decide_eq_false h
instance (y x : Bb) : Decidable (risen y x) := inferInstanceAs (Decidable (_ = true))
theorem risen_of {l : List Bb} (h : ∀ i, ∀ h2 : i + 1 < l.length, risen (l[i]'(by omega)) l[i + 1]) : l.Pairwise risen := by
 rw [List.pairwise_iff_getElem]
 intro i j hi hj hij
 obtain ⟨d, rfl⟩ : ∃ d, j = i + d + 1 := ⟨j - i - 1, by omega⟩
 clear hij
 induction d with
 | zero => exact h i hj
 | succ d ih => exact less_trans (ih (by omega)) (h (i + d + 1) hj)
theorem of_risen {l : List Bb} (h : l.Pairwise risen) (i : Nat) (h2 : i + 1 < l.length) : risen (l[i]'(by omega)) l[i + 1] :=
 List.pairwise_iff_getElem.1 h i (i + 1) (by omega) h2 (by omega)
theorem lit_yes {acc : List Lit} {x : Lit} (hx : WideAt.IsKeyLit x) (h : x ∈ acc) : Maps.addKey acc x = acc := by
 unfold Maps.addKey
 have e : acc.any (fun y => y.sameKey x) = true := List.any_eq_true.2 ⟨x, h, WideAt.sameKey_self hx⟩
 rw [e]
 rfl
theorem lit_no {acc : List Lit} {x : Lit} (h : x ∉ acc) : Maps.addKey acc x = acc ++ [x] := by
 unfold Maps.addKey
 rw [if_neg]
 rw [List.any_eq_true]
 rintro ⟨y, h1, h2⟩
 rw [WideAt.sameKey_eq h2] at h1
 exact h h1
theorem fold_len : ∀ (xs acc : List Lit), (∀ x ∈ xs, WideAt.IsKeyLit x) → (xs.foldl Maps.addKey acc).length ≤ acc.length + xs.length ∧ ((xs.foldl Maps.addKey acc).length = acc.length + xs.length ↔ xs.Nodup ∧ ∀ x ∈ xs, x ∉ acc)
 | [], acc, _ => by simp
 | x :: r, acc, h => by
  have hx := h x (by simp)
  rw [List.foldl_cons, List.nodup_cons]
  by_cases e : x ∈ acc
  · rw [lit_yes hx e]
    obtain ⟨h1, _⟩ := fold_len r acc fun y hy => h y (by simp [hy])
    rw [List.length_cons]
    refine ⟨by omega, ⟨fun h2 => by omega, fun h2 => absurd e (h2.2 x (by simp))⟩⟩
  · rw [lit_no e]
    obtain ⟨h1, h2⟩ := fold_len r (acc ++ [x]) fun y hy => h y (by simp [hy])
    rw [List.length_append] at h1 h2
    rw [List.length_cons]
    have hl : ([x] : List Lit).length = 1 := rfl
    rw [hl] at h1 h2
    refine ⟨by omega, ?_⟩
    rw [show acc.length + (r.length + 1) = acc.length + 1 + r.length by omega, h2]
    constructor
    · rintro ⟨a, b⟩
      refine ⟨⟨fun hm => b x hm (by simp), a⟩, fun y hy => ?_⟩
      rcases List.mem_cons.1 hy with rfl | hy
      · exact e
      · exact fun hm => b y hy (by simp [hm])
    · rintro ⟨⟨a, b⟩, c⟩
      refine ⟨b, fun y hy hm => ?_⟩
      rcases List.mem_append.1 hm with hm | hm
      · exact c y (by simp [hy]) hm
      · rw [List.mem_singleton] at hm
        subst hm
        exact a hy
theorem setLen (u : DataW Unit) (xs : List Lit) (h : ∀ x ∈ xs, WideAt.IsKeyLit x) : Maps.size (Maps.setOf u xs) ≤ xs.length ∧ (Maps.size (Maps.setOf u xs) = xs.length ↔ xs.Nodup) := by
 rw [Maps.size_setOf u xs h]
 obtain ⟨h1, h2⟩ := fold_len xs [] h
 simp at h1 h2
 exact ⟨h1, h2⟩
theorem lit_nodup {α : Type} (f : α → Lit) (hf : ∀ a b, f a = f b → a = b) (l : List α) : (l.map f).Nodup ↔ l.Nodup := by
 unfold List.Nodup
 rw [List.pairwise_map]
 constructor
 · exact fun h => h.imp fun e e' => e (by rw [e'])
 · exact fun h => h.imp fun e e' => e (hf _ _ e')
theorem rising_c (A : Option Addr) (n c : Nat) (l : List Bb) (w : World) (h : BSl w w.heap.size A n l) (hn : n ≤ 1000000) :
 Calls Tryz.prog 74 #[.slice A n c] w fun e w' => e = .returned (.bool (decide (l.Pairwise risen))) ∧ Below w.heap.size w w' := by
 have HH := hid h
 have HLN : Hid (l.length = n) := hid h.1
 clear h
 go_enter Tryz.func74, Tryz.ntmps74
 go_wp2_with fail
 go_loopg [6] n (fun kk iv wr => ∃ (j : Nat), iv = .int .i64 (j : Int) ∧ Hid (kk = n - j) ∧ Hid (j ≤ n) ∧ Hid (∀ i, ∀ h2 : i + 1 < l.length, i + 1 < j → risen (l[i]'(by omega)) l[i + 1]) ∧ Hid (Below w.heap.size w wr))
 case atStart => exact ⟨0, rfl, hid (by omega), hid (Nat.zero_le _), hid (fun i _ h3 => absurd h3 (by omega)), hid (Below.refl _ _)⟩
 case round =>
 obtain ⟨j, rfl, hgk, hj, hR, hB⟩ := hrel
 rcases Nat.lt_or_ge j n with hlt | hge
 · have HLT := hid hlt
   have j1 : (0 : Int) ≤ (j : Int) := by omega
   have j2 : (j : Int) < (n : Int) := by omega
   have j3 : decide ((j : Int) < (n : Int)) = true := by simpa using hlt
   have j4 : decide (j < n) = true := by simpa using hlt
   have wj : wrap64 ((j : Int) + 1) = ((j + 1 : Nat) : Int) := by unfold wrap64; omega
   rcases j with _ | k
   · have hd : decide (((0 : Nat) : Int) > 0) = false := decide_eq_false (by omega)
     have hd2 : decide ((0 : Int) < ((0 : Nat) : Int)) = false := decide_eq_false (by omega)
     have hB2 := hid fun q => hB.out.trans (Joins.below_draws _ wr q)
     clear hlt hB j1 j2 j3 j4
     go_wp2_with (go_quiet (fail))
     go_roundg (n - (0 + 1))
     case measure => have := hgk.out; have := HLT.out; omega
     case rel => exact ⟨0 + 1, rfl, hid rfl, hid HLT.out, hid (fun i _ h3 => absurd h3 (by omega)), hid (hB2.out _)⟩
   · have hd : decide (((k + 1 : Nat) : Int) > 0) = true := decide_eq_true (by omega)
     have hd2 : decide ((0 : Int) < ((k + 1 : Nat) : Int)) = true := decide_eq_true (by omega)
     have hd3 : decide (0 < k + 1) = true := decide_eq_true (by omega)
     have hjl : k + 1 < l.length := by rw [HLN.out]; exact hlt
     obtain ⟨lb, off, rfl, hbl, hr1⟩ := HH.out.2 (k + 1) hjl
     obtain ⟨lb', off', e, _, hr0⟩ := HH.out.2 k (by omega)
     injection e with e
     injection e with e1 e2
     subst e1 e2
     obtain ⟨x, hx⟩ : ∃ x, l[k]'(by omega) = x := ⟨_, rfl⟩
     obtain ⟨y, hy⟩ : ∃ y, l[k + 1]'hjl = y := ⟨_, rfl⟩
     rw [hy] at hr1
     rw [hx] at hr0
     have c1 := (range11 (rangeAt_keep hr1 (hB.out.block lb hbl))).1
     have c0 := (range11 (rangeAt_keep hr0 (hB.out.block lb hbl))).1
     have HB2 := hid fun q => hB.out.trans (Joins.below_draws _ wr q)
     have HST : Hid (∀ i, ∀ h2 : i + 1 < l.length, i + 1 < k + 1 + 1 → risen x y → risen (l[i]'(by omega)) l[i + 1]) := hid (fun i h2 h3 hr => by
      by_cases e : i = k
      · subst e; rw [hx, hy]; exact hr
      · exact hR.out i h2 (by omega))
     have HNO : Hid (¬ risen x y → ¬ l.Pairwise risen) := hid (fun h1 h2 => h1 (by have := of_risen h2 k hjl; rwa [hx, hy] at this))
     clear hx hy
     clear hlt
     generalize hJ : k + 1 = J at *
     have k1 : wrap64 ((J : Int) - 1) = (k : Int) := by unfold wrap64; omega
     have k4 : IntKind.i64.wrap ((J : Int) - 1) = (k : Int) := by rw [IntWalk.i64_in _ (by omega)]; omega
     have HJ := hid hJ
     have k2 : (0 : Int) ≤ (k : Int) := by omega
     have k3 : (k : Int) < (n : Int) := by omega
     clear hJ hR hB hr1 hr0 hbl
     have s1 := str_list x.nm
     have s2 := str_list y.nm
     cases hyx : Op.bytesLess x.nm y.nm
     · have HF : Hid (decide (l.Pairwise risen) = false) := hid (decide_eq_false (HNO.out (by unfold risen; rw [hyx]; simp)))
       clear HST HNO
       by_cases he : y.nm = x.nm
       · have d1 : Op.bytesLess y.nm x.nm = false := by rw [he]; exact less_self _
         have d2 : (y.nm == x.nm) = true := by simpa using he
         rw [he] at c1 d1 d2 s2
         go_wp2_with (go_quiet (fail))
         go_ret
         exact ⟨congrArg (fun b => Ending.returned (.bool b)) HF.out.symm, HB2.out _⟩
       · have d1 : Op.bytesLess y.nm x.nm = true := less_tri hyx (fun e => he e.symm)
         have d2 : (y.nm == x.nm) = false := by simpa using he
         go_wp2_with (go_quiet (fail))
         go_ret
         exact ⟨congrArg (fun b => Ending.returned (.bool b)) HF.out.symm, HB2.out _⟩
     · have HS2 : Hid (∀ i, ∀ h2 : i + 1 < l.length, i + 1 < J + 1 → risen (l[i]'(by omega)) l[i + 1]) := hid (fun i h2 h3 => HST.out i h2 (by have := HJ.out; omega) hyx)
       have d1 : Op.bytesLess y.nm x.nm = false := less_turn hyx
       have d2 : (y.nm == x.nm) = false := by simpa using (less_ne hyx).symm
       clear HST HNO
       go_wp2_with (go_quiet (fail))
       go_roundg (n - (J + 1))
       case measure => have := hgk.out; have := HLT.out; have := HJ.out; omega
       case rel => exact ⟨J + 1, rfl, hid rfl, hid (by have := HLT.out; have := HJ.out; omega), HS2, hid (HB2.out _)⟩
 · have hjn : j = n := by have := hj.out; omega
   subst hjn
   have j2 : ¬ (j : Int) < (j : Int) := by omega
   have HF : Hid (decide (l.Pairwise risen) = true) := hid (decide_eq_true (risen_of fun i h2 => hR.out i h2 (by have := HLN.out; omega)))
   clear hge hj hgk hR
   go_wp2
   go_ret
   exact ⟨congrArg (fun b => Ending.returned (.bool b)) HF.out.symm, hB.out⟩
theorem Tryz.lawInt : Maps.Keyed Tryz.prog 3 := Maps.int_keyed Tryz.underlying3
theorem key_int {n : Int} (h : i64ok n) : keyOf Tryz.prog 3 (.int .i64 n) = some (.int .i64 n) := Maps.keyOf_int_mk Tryz.underlying3 (by unfold i64ok at h; simp [Lit.wf, IntKind.min, IntKind.max, IntKind.signed, IntKind.bits]; omega)
def blkLit (x : Bb) : Lit := .int .i64 x.b
def blkSet (l : List Bb) : DataW Unit := Maps.setOf (.agg []) (l.map blkLit)
theorem blkSet_snoc {l : List Bb} {j : Nat} (hj : j < l.length) : blkSet (l.take (j + 1)) = (blkSet (l.take j)).put (.int .i64 l[j].b) (.agg []) := by
 unfold blkSet
 rw [List.take_succ_eq_append_getElem hj, List.map_append]
 exact Maps.setOf_snoc _ _ _
theorem blkSet_len (l : List Bb) : Maps.size (blkSet l) ≤ l.length ∧ (Maps.size (blkSet l) = l.length ↔ (l.map Bb.b).Nodup) := by
 have h := setLen (.agg []) (l.map blkLit) (fun x hx => by obtain ⟨y, _, rfl⟩ := List.mem_map.1 hx; trivial)
 rw [List.length_map] at h
 refine ⟨h.1, h.2.trans ?_⟩
 have e : l.map blkLit = (l.map Bb.b).map (fun n => Lit.int .i64 n) := by rw [List.map_map]; rfl
 rw [e]
 exact lit_nodup _ (fun a b h => by injection h) _
theorem apart_c (A : Option Addr) (n c : Nat) (l : List Bb) (w : World) (h : BSl w w.heap.size A n l) (hn : n ≤ 1000000) (hb : ∀ x ∈ l, i64ok x.b) :
 Calls Tryz.prog 75 #[.slice A n c] w fun e w' => e = .returned (.bool (decide ((l.map Bb.b).Nodup))) ∧ Below w.heap.size w w' := by
 have HH := hid h
 have HN := hid hn
 have HLN : Hid (l.length = n) := hid h.1
 have HW := hid hb
 clear h hb
 have hmm := fun (m : Int) (w : World) => run_makeMapN Tryz.underlying201 m w
 go_enter Tryz.func75, Tryz.ntmps75
 go_wp2_with fail
 clear hmm
 have hM : (w.alloc (.map #[] 0)).ownsMap (H := Unit) Tryz.prog 3 unitElem w.heap.size 0 (blkSet (l.take 0)) := World.ownsMap_made (H := Unit) w Tryz.prog 3 unitElem
 have HM := hid hM
 have HB : Hid (Below w.heap.size w (w.alloc (.map #[] 0))) := hid ((Below.refl _ _).alloc (nl _) _)
 clear hM
 go_loopg [11] n (fun kk iv wr => ∃ (j : Nat), iv = .int .i64 (j : Int) ∧ Hid (kk = n - j) ∧ Hid (j ≤ n) ∧ Hid (wr.ownsMap (H := Unit) Tryz.prog 3 unitElem w.heap.size j (blkSet (l.take j))) ∧ Hid (Below w.heap.size w wr))
 case atStart => exact ⟨0, rfl, hid (by omega), hid (Nat.zero_le _), HM, HB⟩
 case round =>
 obtain ⟨j, rfl, hgk, hj, hM, hB⟩ := hrel
 clear HM HB
 rcases Nat.lt_or_ge j n with hlt | hge
 · have HLT := hid hlt
   have hjl : j < l.length := by rw [HLN.out]; exact hlt
   have j1 : (0 : Int) ≤ (j : Int) := by omega
   have j2 : (j : Int) < (n : Int) := by omega
   have j3 : decide ((j : Int) < (n : Int)) = true := by simpa using hlt
   have j4 : decide (j < n) = true := by simpa using hlt
   have wj : wrap64 ((j : Int) + 1) = ((j + 1 : Nat) : Int) := by unfold wrap64; omega
   obtain ⟨lb, off, rfl, hbl, hr0⟩ := HH.out.2 j hjl
   have hr1 := rangeAt_keep hr0 (hB.out.block lb hbl)
   have HSN := hid (blkSet_snoc hjl)
   have HXB := hid (HW.out l[j] (List.getElem_mem _))
   generalize l[j] = x at *
   obtain ⟨c0, c1, c2, c3, c4, c5, c6, c7, c8, c9, c10⟩ := range11 hr1
   have HM2 := hid (hM.out.alloc (.cells #[.string (str (x).nm), .int .i64 (x).k.t, .int .i64 (x).k.c, .int .i64 (x).k.e, .int .i64 (x).b, .int .i64 (x).p.k.t, .int .i64 (x).p.k.c, .int .i64 (x).p.k.e, .int .i64 (x).p.id, .int .i64 (x).p.ver, .int .i64 (x).sz] 90))
   have HB2 : Hid (Below w.heap.size w (wr.alloc (.cells #[.string (str (x).nm), .int .i64 (x).k.t, .int .i64 (x).k.c, .int .i64 (x).k.e, .int .i64 (x).b, .int .i64 (x).p.k.t, .int .i64 (x).p.k.c, .int .i64 (x).p.k.e, .int .i64 (x).p.id, .int .i64 (x).p.ver, .int .i64 (x).sz] 90))) := hid (hB.out.alloc hB.out.size _)
   have hk2 := Blk.new wr 90 #[.string (str (x).nm), .int .i64 (x).k.t, .int .i64 (x).k.c, .int .i64 (x).k.e, .int .i64 (x).b, .int .i64 (x).p.k.t, .int .i64 (x).p.k.c, .int .i64 (x).p.k.e, .int .i64 (x).p.id, .int .i64 (x).p.ver, .int .i64 (x).sz]
   have x4 := (bbB_cells (x := x) hk2).2.2.2.2.1
   clear hlt hjl hbl hr0 hr1 hM hB hk2
   go_wp2_with (at_mapUpdate; refine wpList_mapUpdate_own _ rfl _ _ _ 201 rfl 3 148 Tryz.lawInt Tryz.underlying201 unitElem w.heap.size j _ rfl HM2.out (by have := HN.out; have := HLT.out; unfold maxLen; omega) _ _ (.int .i64 x.b) rfl rfl (key_int HXB.out) (.agg []) [] unitElem_mk ?_)
   intro w2 hM3 hg3
   have HM3 : Hid (w2.ownsMap (H := Unit) Tryz.prog 3 unitElem w.heap.size (j + 1) (blkSet (l.take (j + 1)))) := hid (by rw [HSN.out]; exact hM3)
   have HB3 := hid (HB2.out.grown hg3 HB2.out.size (fun k hk => by injection hk with hk; omega))
   clear hM3 hg3
   go_wp2_with fail
   go_roundg (n - (j + 1))
   case measure => have := hgk.out; have := HLT.out; omega
   case rel => exact ⟨j + 1, rfl, hid rfl, hid HLT.out, HM3, HB3⟩
 · have hjn : j = n := by have := hj.out; omega
   subst hjn
   have j2 : ¬ (j : Int) < (j : Int) := by omega
   have hlen := World.ownsMap.len hM.out Tryz.underlying201
   rw [← HLN.out, List.take_length] at hlen
   have hq := (blkSet_len l).2
   rw [HLN.out] at hq
   generalize Maps.size (blkSet l) = m at *
   by_cases e : m = j
   · have HF : Hid (decide ((l.map Bb.b).Nodup) = true) := hid (decide_eq_true (hq.1 e))
     subst e
     clear hge hj hgk hM hq
     go_wp2
     go_ret
     exact ⟨congrArg (fun b => Ending.returned (.bool b)) (by rw [HF.out]), hB.out⟩
   · have HF : Hid (decide ((l.map Bb.b).Nodup) = false) := hid (decide_eq_false fun h => e (hq.2 h))
     have e1 : ((m : Int) == (j : Int)) = false := beq_eq_false_iff_ne.2 (by omega)
     have e2 : decide ((m : Int) = (j : Int)) = false := decide_eq_false (by omega)
     have e3 : (m == j) = false := beq_eq_false_iff_ne.2 e
     have e4 : decide (m = j) = false := decide_eq_false e
     clear hge hj hgk hM hq
     go_wp2
     go_ret
     exact ⟨congrArg (fun b => Ending.returned (.bool b)) (by rw [HF.out]), hB.out⟩
open Go.RowKit Go.Maps Go.Sort Go.Shelf
theorem iterSorts (m : Nat) : AnyZ.SortsIn Tryz.prog Tryz.iterSorted_ren Fence.wide m :=
 ⟨fun blk off cap ss W hH hblk hsz => callsIn_wide.2 (AnyM.slices_Sort_string Tryz.iterSort blk off cap ss W hH hblk hsz),
  fun p cap W => callsIn_wide.2 (AnyM.slices_Sort_string_none Tryz.iterSort p cap W)⟩
theorem keysOf_c (b : Nat) (w : World) : Calls Tryz.prog 105 #[.map (some b)] w fun e w' => e = .returned (.func (.func 135) #[] #[.pointer (some ⟨w.heap.size, 0, none⟩)]) ∧ w' = w.alloc (.cells #[.map (some b)] 122) :=
 (callsIn_wide (n := 5)).1 (AnyZ.keys_in Tryz.iterKeys Fence.wide 5 trivial rfl (some b) w)
theorem sortedKeys_c (b : Nat) (L : List Bb) (w : World) (h : BMp w b L) (hr : L.Pairwise risen) (hl : L.length ≤ 1000000) : Calls Tryz.prog 104 #[.func (.func 135) #[] #[.pointer (some ⟨w.heap.size, 0, none⟩)]] (w.alloc (.cells #[.map (some b)] 122)) fun e w' => ∃ A c, e = .returned (.slice A L.length c) ∧
 w'.ownsRow w.heap.size 9 1 (.slice A L.length c) L.length ((L.map Bb.nm).map fun l => .string (str l)) ∧ Below w.heap.size w w' := by
 have hown : w.ownsMap (H := Unit) Tryz.prog 9 rB b L.length (bD L) := h
 have hbl := hown.lt
 have hmax : Maps.size (bD L) ≤ maxLen := by rw [bD_size]; unfold maxLen; omega
 have hbytes : Maps.size (bD L) * 16 ≤ 140737488355328 := by rw [bD_size]; omega
 have hseq : SeqGives Fence.wide 2 Tryz.prog 135 #[.pointer (some ⟨w.heap.size, 0, none⟩)] encStr (fun ss => ss.Perm (strKeys (bD L))) (Maps.size (bD L)) (w.alloc (.cells #[.map (some b)] 122)) :=
  AnyZ.keys_gives (ρ := Tryz.iterKeys_ren) { Tryz.iterKeys with } Fence.wide _ trivial rfl (by omega) w.heap.size b L.length (bD L) _ (by simp) (by simp) (by
   obtain ⟨es, clock, hb, Ft, hs, hD⟩ := hown
   exact ⟨es, clock, (Below.heap_alloc _ _ b hbl).trans hb, Ft, hs, hD⟩)
 have hc : CallsIn Fence.wide 5 Tryz.prog 104 #[.func (.func 135) #[] #[.pointer (some ⟨w.heap.size, 0, none⟩)]] (w.alloc (.cells #[.map (some b)] 122)) fun e w' => ∃ (v : Value) (ss : List (List UInt8)), e = .returned v ∧ ss.Perm (strKeys (bD L)) ∧
  w'.ownsRow (w.alloc (.cells #[.map (some b)] 122)).heap.size 9 1 v ss.length ((ss.mergeSort (fun x y => decide (x ≤ y))).map encStr) ∧ (v = .slice none 0 0 ↔ ss = []) ∧ Below (w.alloc (.cells #[.map (some b)] 122)).heap.size (w.alloc (.cells #[.map (some b)] 122)) w' :=
  AnyZ.sorted_in Tryz.iterSorted Fence.wide 5 trivial trivial trivial trivial rfl (by omega) (iterSorts _) (enters_of Tryz.func134 (by kernel_rfl) rfl) 135 #[.pointer (some ⟨w.heap.size, 0, none⟩)] trivial (enters_of Tryz.func135 (by kernel_rfl) rfl) _ _ hmax hbytes _ hseq
 refine ((callsIn_wide (n := 5)).1 hc).mono ?_
 rintro e w' ⟨v, ss, rfl, hS, hrow, -, hb⟩
 rw [bD_keys] at hS
 have hlen : ss.length = L.length := by rw [hS.length_eq, List.length_map]
 rw [names_sort hr hS, hlen] at hrow
 have hsz : (w.alloc (.cells #[.map (some b)] 122)).heap.size = w.heap.size + 1 := by simp
 rw [hsz] at hrow hb
 obtain ⟨A, c, rfl, _⟩ := own_form hrow
 exact ⟨A, c, rfl, ownsRow_base_a hrow (by omega), ((Below.refl _ w).alloc (nl _) _).trans (hb.mono (by omega))⟩
theorem with_end {P : List Bb} {b : Bb} (h : ∀ x ∈ P, risen x b) : with_ (without P b.nm) b = P ++ [b] := by
 have e : without P b.nm = P := by
  unfold without
  rw [List.filter_eq_self]
  intro x hx
  simpa using less_ne (h x hx)
 rw [e]
 clear e
 induction P with
 | nil => rfl
 | cons x r ih =>
  have h1 : ¬ Op.bytesLess b.nm x.nm = true := fun e => less_ne (less_trans e (h x (by simp))) rfl
  rw [with_, if_neg h1, ih fun y hy => h y (by simp [hy])]
  rfl
theorem fold_put : ∀ (L P : List Bb), (P ++ L).Pairwise risen → (L.map fun x => (Lit.string x.nm, bd x)).foldl (fun (D : DataW Unit) p => D.put p.1 p.2) (bD P) = bD (P ++ L)
 | [], P, _ => by simp
 | b :: r, P, h => by
  rw [List.map_cons, List.foldl_cons, bD_put, with_end fun x hx => (List.pairwise_append.1 h).2.2 x hx b (by simp)]
  have := fold_put r (P ++ [b]) (by simpa using h)
  rw [this]
  simp
theorem mergeD_nil (L : List Bb) (hr : L.Pairwise risen) : Lib.mergeD (bD []) (bD L) = bD L := by
 have h := fold_put L [] (by simpa using hr)
 exact h
theorem mapsCopy_c (bd' bs' : Nat) (L : List Bb) (w : World) (hd : BMp w bd' []) (hs : BMp w bs' L) (hne : bd' ≠ bs') (hr : L.Pairwise risen) (hl : L.length ≤ 1000000) :
 Calls Tryz.prog 90 #[.map (some bd'), .map (some bs')] w fun e w' => e = .returned (.tuple #[]) ∧ BMp w' bd' L ∧ w.grownBy w' (some bd') := by
 have hbd := hd.lt
 have hbs := hs.lt
 have HD : Hid (w.ownsMap (H := Unit) Tryz.prog 9 rB bd' 0 (bD [])) := hid hd
 have HS : Hid (w.ownsMap (H := Unit) Tryz.prog 9 rB bs' L.length (bD L)) := hid hs
 have HR := hid hr
 have HL := hid hl
 clear hd hs hr hl
 go_enter Tryz.func90, Tryz.ntmps90
 go_wp2_with (first
  | (at_range; refine wpList_range_own _ rfl _ 122 rfl 9 90 Tryz.lawStr Tryz.underlying122 rB bs' L.length _ rfl HS.out ?_; intro w0 hrg0 hg0 hs0)
  | go_in)
 go_frame
 go_loopw [8] (fun _ wr => ∃ (left : Lit → Bool) (cnt : Nat) (Dout : DataW Unit), wr.ranges Tryz.prog 9 rB bs' w.heap.size L.length (bD L) left cnt ∧ cnt ≤ Maps.size (bD L) ∧
  wr.ownsMap Tryz.prog 9 rB bd' (Maps.size (bD L) - cnt) Dout ∧ Merged Dout (bD []) (bD L) left ∧ w.grownBy wr (some bd'))
  (fun _ wr => wr.rangeLeft bs' w.heap.size)
 case atStart =>
  exact ⟨_, _, bD [], hrg0, nl _, (HD.out.kept hg0 (by simp)).mono (by omega), merged_start (bD []) (bD L), hg0.but _⟩
 case round =>
  obtain ⟨left, cnt, Dout, hrg, hcs, hout, hM, hgw⟩ := hrel
  go_wp2_with (first
   | (at_next; refine wpList_next_ranges _ rfl _ rfl 9 Tryz.lawStr rB (fun nm : List UInt8 => .string (str nm)) (fun x : Bb => (.agg #[.string (str (x).nm), .int .i64 (x).k.t, .int .i64 (x).k.c, .int .i64 (x).k.e, .int .i64 (x).b, .int .i64 (x).p.k.t, .int .i64 (x).p.k.c, .int .i64 (x).p.k.e, .int .i64 (x).p.id, .int .i64 (x).p.ver, .int .i64 (x).sz])) (fun key kl hk => by obtain ⟨x, hx, _⟩ := Maps.keyOf_str Tryz.underlying9 hk; exact ⟨x, hx⟩) (fun v _ hv => by obtain ⟨x, hx, _⟩ := rB_inv hv; exact ⟨x, hx⟩) bs' w.heap.size L.length _ _ _ rfl hrg ?_ ?_)
   | go_in)
  · intro hc0 hl0
    go_wp2
    go_end0
    subst hc0
    have e := merged_eq Tryz.lawStr.one hM hl0 (hout.canon Tryz.lawStr) (HD.out.canonK Tryz.lawStr) (HS.out.canonK Tryz.lawStr)
    rw [mergeD_nil L HR.out] at e
    subst e
    exact ⟨rfl, BMp.of hout, hgw⟩
  · intro x c kl yd yp w1 cnt1 hkey hlx hv hat hrg1 hlt hg1 hs1 hen
    have hout1 := hout.kept hg1 (fun e => by have := Option.some.inj e; omega)
    have hb2 : Below w1.heap.size w1 (w1.alloc (.cells #[.string (str (c).nm), .int .i64 (c).k.t, .int .i64 (c).k.c, .int .i64 (c).k.e, .int .i64 (c).b, .int .i64 (c).p.k.t, .int .i64 (c).p.k.c, .int .i64 (c).p.k.e, .int .i64 (c).p.id, .int .i64 (c).p.ver, .int .i64 (c).sz] 90)) := (Below.refl _ _).alloc (nl _) _
    have hg2 := World.grownBy_alloc w1 (.cells #[.string (str (c).nm), .int .i64 (c).k.t, .int .i64 (c).k.c, .int .i64 (c).k.e, .int .i64 (c).b, .int .i64 (c).p.k.t, .int .i64 (c).p.k.c, .int .i64 (c).p.k.e, .int .i64 (c).p.id, .int .i64 (c).p.ver, .int .i64 (c).sz] 90) none
    have hx : ∃ b0 : Bb, kl = .string x ∧ yd = bd c ∧ yp = ([] : List MemPlace) ∧ x.length ≤ maxLen ∧ b0 = c := by
     obtain ⟨x', ex, rfl, hx'⟩ := Maps.keyOf_str Tryz.underlying9 hkey
     obtain rfl : x = x' := encStr_inj ex
     have e : rB (.agg #[.string (str (c).nm), .int .i64 (c).k.t, .int .i64 (c).k.c, .int .i64 (c).k.e, .int .i64 (c).b, .int .i64 (c).p.k.t, .int .i64 (c).p.k.c, .int .i64 (c).p.k.e, .int .i64 (c).p.id, .int .i64 (c).p.ver, .int .i64 (c).sz]) = some (bd c, []) := rB_val c
     rw [hv] at e
     injection e with e
     injection e with e1 e2
     exact ⟨c, rfl, e1, e2, hx', rfl⟩
    obtain ⟨_, rfl, rfl, rfl, hxl, -⟩ := hx
    have HV : Hid (rB (.agg #[.string (str (c).nm), .int .i64 (c).k.t, .int .i64 (c).k.c, .int .i64 (c).k.e, .int .i64 (c).b, .int .i64 (c).p.k.t, .int .i64 (c).p.k.c, .int .i64 (c).p.k.e, .int .i64 (c).p.id, .int .i64 (c).p.ver, .int .i64 (c).sz]) = some (bd c, [])) := hid hv
    have HKY := hid hkey
    have HAT := hid hat
    have HCS := hid hcs
    have HLT := hid hlt
    have HHS : Hid (w1.heap.size = wr.heap.size) := hid hs1
    have HLX := hid hlx
    have HG1 := hid hg1
    have HRG := hid hrg
    clear hs1 hlx hkey hat hcs hlt hv hg1 hrg hout
    have hb2 : Below w1.heap.size w1 (w1.alloc (.cells #[.string (str (c).nm), .int .i64 (c).k.t, .int .i64 (c).k.c, .int .i64 (c).k.e, .int .i64 (c).b, .int .i64 (c).p.k.t, .int .i64 (c).p.k.c, .int .i64 (c).p.k.e, .int .i64 (c).p.id, .int .i64 (c).p.ver, .int .i64 (c).sz] 90)) := (Below.refl _ _).alloc (nl _) _
    have hg2 := World.grownBy_alloc w1 (.cells #[.string (str (c).nm), .int .i64 (c).k.t, .int .i64 (c).k.c, .int .i64 (c).k.e, .int .i64 (c).b, .int .i64 (c).p.k.t, .int .i64 (c).p.k.c, .int .i64 (c).p.k.e, .int .i64 (c).p.id, .int .i64 (c).p.ver, .int .i64 (c).sz] 90) none
    have hk2 := Blk.new w1 90 #[.string (str (c).nm), .int .i64 (c).k.t, .int .i64 (c).k.c, .int .i64 (c).k.e, .int .i64 (c).b, .int .i64 (c).p.k.t, .int .i64 (c).p.k.c, .int .i64 (c).p.k.e, .int .i64 (c).p.id, .int .i64 (c).p.ver, .int .i64 (c).sz]
    obtain ⟨c0, c1, c2, c3, c4, c5, c6, c7, c8, c9, c10⟩ := bbB_cells (x := c) hk2
    have HOUT2 := hid (hout1.kept hg2 (by simp))
    have HG2 := hid hg2
    have HRG2 := hid (hrg1.kept hg2 (by simp) (by simp))
    clear hb2 hg2 hk2 hout1 hrg1
    go_wp2_with (first
     | (at_mapUpdate; refine wpList_mapUpdate_own _ rfl _ _ _ 122 rfl 9 90 Tryz.lawStr Tryz.underlying122 rB bd' _ _ rfl HOUT2.out ?hroom _ _ _ rfl rfl HKY.out (bd c) [] HV.out ?_)
     | go_in)
    case hroom => rw [bD_size]; unfold maxLen; have := HL.out; omega
    intro w2 hout2 hg3
    try go_frame
    have hrg2 := HRG2.out.kept hg3 (fun e => hne (Option.some.inj e).symm) (fun e => by have := Option.some.inj e; omega)
    go_roundw
    case rel =>
     exact ⟨_, _, _, _, _, _, _, _, _, _, ⟨_, cnt1, _, hrg2, by have := HCS.out; have := HLT.out; omega, hout2.mono (by have := HCS.out; have := HLT.out; omega), merged_step hM HOUT2.out.isMap (Tryz.lawStr.key HKY.out) HAT.out, ((hgw.andThen HG1.out (fun j hj => .inl (by cases hj; exact nl _))).andThen HG2.out (fun j hj => by cases hj)).andThen hg3 (fun j hj => .inr hj)⟩, rfl⟩
    case measure => rw [hrg2.left_eq, HRG.out.left_eq]; exact HLT.out
theorem Tryz.infoBlob : (Tryz.prog.info? 90).map (fun i => (i.zero, i.size, i.bytes)) = some (some (.agg #[.string (str (bb0).nm), .int .i64 (bb0).k.t, .int .i64 (bb0).k.c, .int .i64 (bb0).k.e, .int .i64 (bb0).b, .int .i64 (bb0).p.k.t, .int .i64 (bb0).p.k.c, .int .i64 (bb0).p.k.e, .int .i64 (bb0).p.id, .int .i64 (bb0).p.ver, .int .i64 (bb0).sz]), 11, 96) := by kernel_rfl
theorem bcs_snoc {l : List Bb} {j : Nat} (hj : j < l.length) : bcs (l.take (j + 1)) = bcs (l.take j) ++ l[j].cells := by
 unfold bcs
 rw [List.take_succ_eq_append_getElem hj, List.flatMap_append]
 show _ ++ (l[j].cells ++ []) = _
 rw [List.append_nil]
theorem own_ne {w : World} {b1 b2 z1 z2 n1 n2 c1 c2 : Nat} {e1 e2 : TypeId} {A1 A2 : Option Addr} {xs ys : List Value} (h1 : w.ownsRow b1 e1 z1 (.slice A1 n1 c1) n1 xs) (h2 : w.ownsRow b2 e2 z2 (.slice A2 n2 c2) n2 ys) (he : e1 ≠ e2) : ∀ x, A1.map (·.block) = some x → A2.map (·.block) ≠ some x := by
 intro x hx1 hx2
 rcases h1.2 with ⟨hv, _⟩ | ⟨g, cap, cur, hv, _, hg, _⟩
 · injection hv with hA; subst hA; cases hx1
 · injection hv with hA
   subst hA
   rcases h2.2 with ⟨hv2, _⟩ | ⟨g2, cap2, cur2, hv2, _, hg2, _⟩
   · injection hv2 with hA2; subst hA2; cases hx2
   · injection hv2 with hA2
     subst hA2
     simp at hx1 hx2
     subst hx1 hx2
     have := hg.symm.trans hg2
     injection this with this
     injection this with _ h3 _
     exact he h3
theorem wpList_appB (w0 : World) {ops : Array Oper} {rest : List Oper} {o : Oper} {a : Act} {Q : Exit → Act → World → Prop} (hgd : o.guard = none) (s x : Operand)
 (ho : o.op = .call { callee := .builtin .append, args := #[s, x], argTypes := #[71, 71] })
 (base : Nat) (A : Option Addr) (c : Nat) (l : List Bb) (n : Nat) (hn : l.length = n) (hs : a.eval s = .slice A n c) (hown : w0.ownsRow base 90 11 (.slice A n c) n (bcs l)) (y : Bb)
 (q : Nat) (hq : w0.heap.size = q) (hx : a.eval x = .slice (some ⟨q, 0, none⟩) 1 1) (hl : n ≤ 1000000) (hbase : base ≤ w0.heap.size)
 (h : ∀ A' c' w', w'.ownsRow base 90 11 (.slice A' (n + 1) c') (n + 1) (bcs l ++ y.cells) → Below base w0 w' → w0.grownBy w' (A.map (·.block)) → wpList Tryz.prog ops Q rest (a.put o.dst (.slice A' (n + 1) c')) w') :
 wpList Tryz.prog ops Q (o :: rest) a (w0.alloc (.cells #[.string (str (y).nm), .int .i64 (y).k.t, .int .i64 (y).k.c, .int .i64 (y).k.e, .int .i64 (y).b, .int .i64 (y).p.k.t, .int .i64 (y).p.k.c, .int .i64 (y).p.k.e, .int .i64 (y).p.id, .int .i64 (y).p.ver, .int .i64 (y).sz] 90)) := by
 subst hq
 obtain ⟨i, hi, hz0, hz1, hz2⟩ := info_parts Tryz.infoBlob
 have hk := Blk.new w0 90 #[.string (str (y).nm), .int .i64 (y).k.t, .int .i64 (y).k.c, .int .i64 (y).k.e, .int .i64 (y).b, .int .i64 (y).p.k.t, .int .i64 (y).p.k.c, .int .i64 (y).p.k.e, .int .i64 (y).p.id, .int .i64 (y).p.ver, .int .i64 (y).sz]
 refine wpList_append_own_at _ hgd s x 71 ho base 90 i (.agg #[.string (str (bb0).nm), .int .i64 (bb0).k.t, .int .i64 (bb0).k.c, .int .i64 (bb0).k.e, .int .i64 (bb0).b, .int .i64 (bb0).p.k.t, .int .i64 (bb0).p.k.c, .int .i64 (bb0).p.k.e, .int .i64 (bb0).p.id, .int .i64 (bb0).p.ver, .int .i64 (bb0).sz]) 11 96 Tryz.underlying71 hi hz0 hz1 hz2 rfl (by omega) _ n (bcs l) hs (hown.alloc _) ⟨w0.heap.size, 0, none⟩ 1 1 y.cells hx rfl (fun j u hu => ?_) (bb_cell y) (by unfold maxLen; omega) (by omega) (by simp; omega) ?_
 · rw [add_plain, hk.cell, Nat.zero_add]
   exact (show (y.cells.toArray)[j]? = some u by rw [List.getElem?_toArray]; exact hu)
 intro v' w' hown' hgr _ _
 have h2 : (Value.slice A n c).ownBlock = A.map (·.block) := by cases A <;> rfl
 rw [h2] at hgr
 have h3 : ∃ A' c', v' = .slice A' (n + 1) c' := by
  rcases hown'.2 with ⟨_, h0⟩ | ⟨g, cap, cur, hv', _⟩
  · omega
  · exact ⟨_, _, hv'⟩
 obtain ⟨A', c', rfl⟩ := h3
 have hg2 : w0.grownBy w' (A.map (·.block)) := (World.grownBy_alloc w0 _ _).trans hgr
 exact h A' c' w' hown' (grown_below hg2 hbase fun k hk => (hown.lt k (by rw [h2]; exact hk)).1) hg2
theorem byNames_c (b : Nat) (L : List Bb) (w : World) (h : BMp w b L) (hr : L.Pairwise risen) (hl : L.length ≤ 1000000) (hn : ∀ x ∈ L, x.nm.length ≤ maxLen) :
 Calls Tryz.prog 66 #[.map (some b)] w fun e w' => ∃ A c, e = .returned (.slice A L.length c) ∧ BRow 90 w' w.heap.size A c L ∧ Below w.heap.size w w' := by
 have HM := hid h
 have HR := hid hr
 have HL := hid hl
 have hlen := h.len
 have HG : Hid (∀ w' : World, Below w.heap.size w w' → ∀ x ∈ L, (Instr.lookup 122 (.map (some b)) (.string (str x.nm)) false).run Tryz.prog w' = .ok (.agg #[.string (str (x).nm), .int .i64 (x).k.t, .int .i64 (x).k.c, .int .i64 (x).k.e, .int .i64 (x).b, .int .i64 (x).p.k.t, .int .i64 (x).p.k.c, .int .i64 (x).p.k.e, .int .i64 (x).p.id, .int .i64 (x).p.ver, .int .i64 (x).sz]) w') := hid fun w' hb x hx => by
  have := (h.bel hb).get (hn x hx)
  unfold getB at this
  rw [fnd_mem hr hx] at this
  exact this
 obtain ⟨i0, hi, hz0, hz1, hz2⟩ := info_parts Tryz.infoBlob
 have HSK := hid fun (w1 : World) (h1 : BMp w1 b L) => sortedKeys_c b L w1 h1 hr hl
 clear h hr hn
 obtain ⟨n, hLn⟩ : ∃ n, L.length = n := ⟨_, rfl⟩
 rw [hLn] at hlen hl
 have HLN := hid hLn
 rw [hLn] at HSK
 rw [hLn]
 clear hLn
 go_enter Tryz.func66, Tryz.ntmps66
 go_wp2_with (at_make; refine wpList_make_own _ rfl _ _ 71 rfl w.heap.size 90 i0 (.agg #[.string (str (bb0).nm), .int .i64 (bb0).k.t, .int .i64 (bb0).k.c, .int .i64 (bb0).k.e, .int .i64 (bb0).b, .int .i64 (bb0).p.k.t, .int .i64 (bb0).p.k.c, .int .i64 (bb0).p.k.e, .int .i64 (bb0).p.id, .int .i64 (bb0).p.ver, .int .i64 (bb0).sz]) 11 Tryz.underlying71 hi hz0 hz1 .i64 .i64 (n : Int) n rfl rfl rfl (by rw [hz2]; omega) (by unfold maxLen; omega) (nl _) ?_)
 intro w1 ho1 hg1
 have HO1 := hid ho1
 have HB1 : Hid (Below w.heap.size w w1) := hid (grown_below hg1 (nl _) (fun k hk => by cases hk))
 have hk1 := keysOf_c b w1
 have hs1 := HSK.out w1 (HM.out.bel HB1.out)
 clear ho1 hg1 hlen HM hi hz0 hz1 hz2
 go_wp2_with fail
 refine hk1.mono ?_
 rintro e w2 ⟨rfl, rfl⟩
 go_wp2_with fail
 refine hs1.mono ?_
 rintro e w2 ⟨A2, c2, rfl, ho2, hb2⟩
 have HO2 := hid ho2
 have HB2 := hid (HB1.out.trans (hb2.mono HB1.out.size))
 have HR2 : Hid (w2.ownsRow w.heap.size 90 11 (.slice (some ⟨w.heap.size, 0, none⟩) 0 n) 0 (bcs (L.take 0))) := hid (by
  have := World.ownsRow.below HO1.out hb2
  simpa [bcs] using this)
 have HS2 : Hid (w1.heap.size ≤ w2.heap.size) := hid hb2.size
 clear hk1 hs1 ho2 hb2 HO1 HSK
 go_wp2_with fail
 go_loopg [3, 13] n (fun kk bv iv wr => ∃ (j : Nat) (A3 : Option Addr) (d3 : Nat), bv = .slice A3 j d3 ∧ iv = .int .i64 (j : Int) ∧ Hid (kk = n - j) ∧ Hid (j ≤ n) ∧ Hid (wr.ownsRow w.heap.size 90 11 (.slice A3 j d3) j (bcs (L.take j))) ∧ Hid (Below w.heap.size w wr) ∧ Hid (wr.ownsRow w1.heap.size 9 1 (.slice A2 n c2) n ((L.map Bb.nm).map fun l => .string (str l))))
 case atStart => exact ⟨0, _, n, rfl, rfl, hid (by omega), hid (Nat.zero_le _), HR2, HB2, HO2⟩
 case round =>
 obtain ⟨j, A3, d3, rfl, rfl, hgk, hj, hR, hB, hO⟩ := hrel
 clear HR2 HB2 HO2
 rcases Nat.lt_or_ge j n with hlt | hge
 · have HLT := hid hlt
   have hjl : j < L.length := by rw [HLN.out]; exact hlt
   have hr0 : ∃ b2, A2 = some ⟨b2, 0, none⟩ ∧ wr.cell? ⟨b2, j, none⟩ = some (.string (str L[j].nm)) := by
    obtain ⟨b2, e1, e2, e3⟩ := own_range hO.out (by omega)
    refine ⟨b2, e1, ?_⟩
    have := e3 j (.string (str L[j].nm)) (by rw [List.getElem?_map, List.getElem?_map, List.getElem?_eq_getElem hjl]; rfl)
    rwa [Nat.zero_add] at this
   obtain ⟨b2, rfl, hc0⟩ := hr0
   have hget := HG.out wr hB.out L[j] (List.getElem_mem _)
   have HSN := hid (bcs_snoc hjl)
   have HTL : Hid ((L.take j).length = j) := hid (by rw [List.length_take]; omega)
   generalize L[j] = x at *
   have j1 : (0 : Int) ≤ (j : Int) := by omega
   have j2 : (j : Int) < (n : Int) := by omega
   have j3 : decide ((j : Int) < (n : Int)) = true := by simpa using hlt
   have j4 : decide (j < n) = true := by simpa using hlt
   have wj : wrap64 ((j : Int) + 1) = ((j + 1 : Nat) : Int) := by unfold wrap64; omega
   clear hlt hjl
   have hS : w.heap.size ≤ wr.heap.size := hB.out.size
   go_wp2_with (at_builtin; refine wpList_appB wr rfl _ _ rfl w.heap.size A3 d3 (L.take j) j HTL.out rfl hR.out x wr.heap.size rfl rfl (by omega) hS ?_)
   intro A4 d4 w4 hO4 hb4 hg4
   have HO4 : Hid (w4.ownsRow w.heap.size 90 11 (.slice A4 (j + 1) d4) (j + 1) (bcs (L.take (j + 1)))) := hid (by rw [HSN.out]; exact hO4)
   have HB4 := hid (hB.out.trans hb4)
   have HN4 := hid (own_keep hO.out (fun x hx => hg4.block x (own_lt hO.out x hx) (fun e => own_ne hO.out hR.out (by decide) x hx e.symm)))
   clear hO4 hb4 hg4 hR hB hO hget hS
   go_wp2_with fail
   go_roundg (n - (j + 1))
   case measure => have := hgk.out; have := HLT.out; omega
   case rel => exact ⟨j + 1, A4, d4, rfl, rfl, hid rfl, hid HLT.out, HO4, HB4, HN4⟩
 · have hjn : j = n := by have := hj.out; omega
   subst hjn
   have j2 : ¬ (j : Int) < (j : Int) := by omega
   have HF : Hid (BRow 90 wr w.heap.size A3 d3 L) := hid (by
    have := hR.out
    rw [← HLN.out, List.take_length] at this
    exact this)
   clear hge hj hgk hR hO
   go_wp2
   go_ret
   exact ⟨A3, d3, rfl, HF.out, hB.out⟩
theorem rdBls_add : ∀ (a b : Nat) (l : List UInt8), rdBls (a + b) l = (rdBls a l).bind fun p => (rdBls b p.2).map fun q => (p.1 ++ q.1, q.2)
 | 0, b, l => by
  rw [Nat.zero_add]
  show _ = (rdBls b l).map fun q => ([] ++ q.1, q.2)
  cases rdBls b l <;> rfl
 | a + 1, b, l => by
  rw [show a + 1 + b = (a + b) + 1 by omega, rdBls, rdBls]
  cases h : rdBl l with
  | none => rfl
  | some p =>
   obtain ⟨x, r⟩ := p
   dsimp only
   rw [rdBls_add a b r]
   cases h2 : rdBls a r with
   | none => rfl
   | some q =>
    obtain ⟨xs, r2⟩ := q
    dsimp only [Option.bind_some]
    cases h3 : rdBls b r2 <;> rfl
theorem rdBls_snoc {a : Nat} {l r r' : List UInt8} {xs : List Bb} {x : Bb} (h : rdBls a l = some (xs, r)) (h2 : rdBl r = some (x, r')) : rdBls (a + 1) l = some (xs ++ [x], r') := by
 rw [rdBls_add, h]
 show (rdBls 1 r).map _ = _
 rw [rdBls, h2]
 rfl
theorem par_stop {b : List UInt8} {j : Nat} {xs : List Bb} {r : List UInt8} (hj : j < (rd b).1) (hx : rdBls j (b.drop (rd b).2) = some (xs, r)) (hn : ∀ y r', rdBl r = some (y, r') → ¬ bbOk y) : parB b = none := by
 unfold parB
 split
 · rfl
 obtain ⟨m, hm⟩ : ∃ m, (rd b).1 = j + (m + 1) := ⟨(rd b).1 - j - 1, by omega⟩
 rw [hm, rdBls_add, hx]
 dsimp only [Option.bind_some]
 rw [rdBls]
 cases hr : rdBl r with
 | none => rfl
 | some p =>
  obtain ⟨y, r'⟩ := p
  dsimp only
  cases h2 : rdBls m r' with
  | none => rfl
  | some q =>
   obtain ⟨ys, r''⟩ := q
   dsimp only [Option.map_some]
   rw [if_neg]
   rintro ⟨_, h3, _⟩
   exact hn y r' hr (h3 y (by simp))
theorem apart_iff (xs : List Bb) : xs.Pairwise apart ↔ xs.Pairwise risen ∧ (xs.map Bb.b).Nodup := by
 unfold List.Nodup
 rw [List.pairwise_map]
 constructor
 · exact fun h => ⟨h.imp fun e => e.2, h.imp fun e => e.1⟩
 · rintro ⟨h1, h2⟩
   exact (List.pairwise_and_iff.2 ⟨h2, h1⟩)
theorem par_end {b : List UInt8} {xs : List Bb} {r : List UInt8} (hz : (rd b).2 ≠ 0) (hk : (rd b).1 ≤ 1000) (hx : rdBls (rd b).1 (b.drop (rd b).2) = some (xs, r)) (hok : ∀ x ∈ xs, bbOk x) :
 parB b = if r = [] ∧ xs.Pairwise risen ∧ (xs.map Bb.b).Nodup then some xs else none := by
 have hl := (rdBls_back _ _ _ _ hx).2.1
 unfold parB
 rw [if_neg (by omega), hx]
 dsimp only
 have e : Rgt xs ↔ xs.Pairwise risen ∧ (xs.map Bb.b).Nodup := by
  unfold Rgt
  rw [apart_iff]
  exact ⟨fun h => h.2.1, fun h => ⟨hok, h, by omega⟩⟩
 by_cases h : r = [] ∧ Rgt xs
 · rw [if_pos h, if_pos ⟨h.1, e.1 h.2⟩]
 · rw [if_neg h, if_neg fun h2 => h ⟨h2.1, e.2 h2.2⟩]
theorem par_head {b : List UInt8} (h : (rd b).2 = 0 ∨ 1000 < (rd b).1) : parB b = none := by unfold parB; rw [if_pos h]
def PRes (w : World) (b : List UInt8) (e : Ending) (w' : World) : Prop :=
 ∃ A n c, e = .returned (.tuple #[.slice A n c, .bool (parB b).isSome]) ∧ n = ((parB b).getD []).length ∧ BRow 90 w' w.heap.size A c ((parB b).getD []) ∧ Below w.heap.size w w'
theorem PRes.no {w w' : World} {b : List UInt8} (h : parB b = none) (hb : Below w.heap.size w w') : PRes w b (.returned (.tuple #[.slice none 0 0, .bool false])) w' :=
 ⟨none, 0, 0, by rw [h]; rfl, by rw [h]; rfl, by rw [h]; exact BRow.nil _ _ _, hb⟩
theorem parse_c (A : Option Addr) (n c : Nat) (b : List UInt8) (w : World) (hr : Bts w 0 w.heap.size A n b) (hn : n ≤ 1000000000) :
 Calls Tryz.prog 37 #[.slice A n c] w (PRes w b) := by
 have hop := open_c A n c b w hr hn
 clear hr hn
 go_enter Tryz.func37, Tryz.ntmps37
 go_wp2_with fail
 refine hop.mono ?_
 rintro e w1 ⟨g, rfl, hd1, hs1, hb1⟩
 have HD1 := hid hd1
 have HS1 := hid hs1
 have HB1 := hid hb1
 clear hop hd1 hs1 hb1
 rcases Nat.eq_zero_or_pos (rd b).2 with hz | hz
 · have hc := rnat_none w1 w.heap.size g b HD1.out hz
   have HN := hid (par_head (.inl hz))
   clear hz
   go_wp2_with fail
   refine hc.mono ?_
   rintro e w2 ⟨rfl, -, hg⟩
   have HB2 := hid (HB1.out.grown hg HB1.out.size (fun k hk => by injection hk with hk; have := HD1.out; obtain ⟨_, _, _, _, _, h3, _⟩ := this; omega))
   clear hc hg
   go_wp2
   go_ret2
   exact PRes.no HN.out HB2.out
 have hc := rnat_some w1 w.heap.size g b HD1.out hz
 have HZ : Hid ((rd b).2 ≠ 0) := hid (by omega)
 have HX0 : Hid (rdBls 0 (b.drop (rd b).2) = some ([], b.drop (rd b).2)) := hid rfl
 have HLT := hid (rd_lt b)
 have HGW : Hid (w.heap.size ≤ g) := hid (by obtain ⟨_, _, _, _, _, h3, _⟩ := HD1.out; exact h3)
 obtain ⟨m, hm⟩ : ∃ m, (rd b).1 = m := ⟨_, rfl⟩
 rw [hm] at hc HLT
 have HM := hid hm
 clear hz hm
 go_wp2_with fail
 refine hc.mono ?_
 rintro e w2 ⟨rfl, hd2, hg2⟩
 have HD2 := hid hd2
 have HB2 := hid (HB1.out.grown hg2 HB1.out.size (fun k hk => by injection hk with hk; have := HGW.out; omega))
 have HS2 : Hid (g + 1 ≤ w2.heap.size) := hid (by have := HS1.out; have := hg2.size; omega)
 clear hc hd2 hg2 HD1 HB1 HS1
 rcases Nat.lt_or_ge 1000 m with hk | hk
 · have HN := hid (par_head (b := b) (.inr (by have := HM.out; omega)))
   have m1 : decide ((m : Int) > 1000) = true := decide_eq_true (by omega)
   have m2 : decide ((1000 : Int) < (m : Int)) = true := decide_eq_true (by omega)
   have m3 : decide (1000 < m) = true := decide_eq_true hk
   clear hk
   go_wp2
   go_ret2
   exact PRes.no HN.out HB2.out
 have HK := hid hk
 have m1 : decide ((m : Int) > 1000) = false := decide_eq_false (by omega)
 have m2 : decide ((1000 : Int) < (m : Int)) = false := decide_eq_false (by omega)
 have m3 : decide (1000 < m) = false := decide_eq_false (by omega)
 obtain ⟨i0, hi, hz0, hz1, hz2⟩ := info_parts Tryz.infoBlob
 have hmb : i0.bytes * m ≤ 281474976710656 := by rw [hz2]; omega
 have hml : m ≤ maxLen := by unfold maxLen; omega
 have hg1 : g + 1 ≤ w2.heap.size := HS2.out
 clear hk
 go_wp2_with (at_make; refine wpList_make_own _ rfl _ _ 71 rfl (g + 1) 90 i0 (.agg #[.string (str (bb0).nm), .int .i64 (bb0).k.t, .int .i64 (bb0).k.c, .int .i64 (bb0).k.e, .int .i64 (bb0).b, .int .i64 (bb0).p.k.t, .int .i64 (bb0).p.k.c, .int .i64 (bb0).p.k.e, .int .i64 (bb0).p.id, .int .i64 (bb0).p.ver, .int .i64 (bb0).sz]) 11 Tryz.underlying71 hi hz0 hz1 .i64 .u64 (m : Int) m rfl rfl rfl hmb hml hg1 ?_)
 intro w3 ho3 hg3
 have HO3 : Hid (w3.ownsRow (g + 1) 90 11 (.slice (some ⟨w2.heap.size, 0, none⟩) 0 m) 0 (bcs [])) := hid ho3
 have HB3 := hid (HB2.out.grown hg3 HB2.out.size (fun k hk => by cases hk))
 have HD3 := hid (HD2.out.keep (w' := w3) fun k _ hk => hg3.block k (by have := HS2.out; omega) (by simp))
 have HS3 : Hid (g + 1 ≤ w3.heap.size) := hid (by have := HS2.out; have := hg3.size; omega)
 clear ho3 hg3 HB2 HD2 HS2 hi hz0 hz1 hz2 hmb hml hg1 m1 m2 m3
 go_wp2_with fail
 go_loopg [7, 26] m (fun kk lv iv wr => ∃ (j : Nat) (A3 : Option Addr) (d3 : Nat) (xs : List Bb) (r : List UInt8), lv = .slice A3 j d3 ∧ iv = .int .u64 (j : Int) ∧ Hid (kk = m - j) ∧ Hid (j ≤ m) ∧ Hid (xs.length = j) ∧ Hid (rdBls j (b.drop (rd b).2) = some (xs, r)) ∧ Hid (∀ x ∈ xs, bbOk x) ∧ Hid (wr.ownsRow (g + 1) 90 11 (.slice A3 j d3) j (bcs xs)) ∧ Hid (Rd wr w.heap.size g r) ∧ Hid (Below w.heap.size w wr) ∧ Hid (g + 1 ≤ wr.heap.size))
 case atStart => exact ⟨0, _, m, [], b.drop (rd b).2, rfl, rfl, hid (by omega), hid (Nat.zero_le _), hid rfl, HX0, hid (fun x hx => by cases hx), HO3, HD3, HB3, HS3⟩
 case round =>
 obtain ⟨j, A3, d3, xs, r, rfl, rfl, hgk, hj, hlx, hX, hOk, hO, hD, hB, hS⟩ := hrel
 clear HX0 HO3 HD3 HB3 HS3
 rcases Nat.lt_or_ge j m with hlt | hge
 · have HJM := hid hlt
   have j1 : (0 : Int) ≤ (j : Int) := by omega
   have j2 : (j : Int) < (m : Int) := by omega
   have j3 : decide ((j : Int) < (m : Int)) = true := by simpa using hlt
   have j4 : decide (j < m) = true := by simpa using hlt
   have wj : IntKind.u64.wrap ((j : Int) + 1) = ((j + 1 : Nat) : Int) := by rw [IntWalk.u64_in _ (by have := HK.out; omega)]; omega
   have hc := readEntry_c wr w.heap.size g r hD.out
   clear hlt
   go_wp2_with fail
   refine hc.mono ?_
   rintro e w4 ⟨ok, x, rfl, hg4, h0, h1⟩
   have HB4 := hid (hB.out.grown hg4 hB.out.size (fun k hk => by injection hk with hk; have := HGW.out; omega))
   cases ok
   · have HN := hid (par_stop (b := b) (by have := HJM.out; have := HM.out; omega) hX.out (h0 rfl))
     have HB5 : Hid (Below w.heap.size w (w4.alloc (.cells #[.string (str (x).nm), .int .i64 (x).k.t, .int .i64 (x).k.c, .int .i64 (x).k.e, .int .i64 (x).b, .int .i64 (x).p.k.t, .int .i64 (x).p.k.c, .int .i64 (x).p.k.e, .int .i64 (x).p.id, .int .i64 (x).p.ver, .int .i64 (x).sz] 90))) := hid (HB4.out.alloc HB4.out.size _)
     clear hc hg4 h0 h1 HB4 hB
     go_wp2
     go_ret2
     exact PRes.no HN.out HB5.out
   · obtain ⟨r', hx, hok, hd⟩ := h1 rfl
     have HX5 := hid (rdBls_snoc hX.out hx)
     have HOK5 : Hid (∀ y ∈ xs ++ [x], bbOk y) := hid (fun y hy => by
      rcases List.mem_append.1 hy with h | h
      · exact hOk.out y h
      · rw [List.mem_singleton] at h; rw [h]; exact hok)
     have HO5 : Hid ((w4.alloc (.cells #[.string (str (x).nm), .int .i64 (x).k.t, .int .i64 (x).k.c, .int .i64 (x).k.e, .int .i64 (x).b, .int .i64 (x).p.k.t, .int .i64 (x).p.k.c, .int .i64 (x).p.k.e, .int .i64 (x).p.id, .int .i64 (x).p.ver, .int .i64 (x).sz] 90)).ownsRow (g + 1) 90 11 (.slice A3 j d3) j (bcs xs)) := hid ((own_keep hO.out (fun k hk => hg4.block k (own_lt hO.out k hk) (fun e => by have := own_ge hO.out k hk; injection e with e; omega))).alloc _)
     have HD5 : Hid (Rd (w4.alloc (.cells #[.string (str (x).nm), .int .i64 (x).k.t, .int .i64 (x).k.c, .int .i64 (x).k.e, .int .i64 (x).b, .int .i64 (x).p.k.t, .int .i64 (x).p.k.c, .int .i64 (x).p.k.e, .int .i64 (x).p.id, .int .i64 (x).p.ver, .int .i64 (x).sz] 90)) w.heap.size g r') := hid (hd.keep fun k _ hk => (((Below.refl w4.heap.size w4).alloc (nl _) _).block k (by have := hd.lt; omega)))
     have HB5 : Hid (Below w.heap.size w (w4.alloc (.cells #[.string (str (x).nm), .int .i64 (x).k.t, .int .i64 (x).k.c, .int .i64 (x).k.e, .int .i64 (x).b, .int .i64 (x).p.k.t, .int .i64 (x).p.k.c, .int .i64 (x).p.k.e, .int .i64 (x).p.id, .int .i64 (x).p.ver, .int .i64 (x).sz] 90))) := hid (HB4.out.alloc HB4.out.size _)
     have hk5 := Blk.new w4 90 #[.string (str (x).nm), .int .i64 (x).k.t, .int .i64 (x).k.c, .int .i64 (x).k.e, .int .i64 (x).b, .int .i64 (x).p.k.t, .int .i64 (x).p.k.c, .int .i64 (x).p.k.e, .int .i64 (x).p.id, .int .i64 (x).p.ver, .int .i64 (x).sz]
     obtain ⟨c0, c1, c2, c3, c4, c5, c6, c7, c8, c9, c10⟩ := bbB_cells (x := x) hk5
     have hS5 : g + 1 ≤ (w4.alloc (.cells #[.string (str (x).nm), .int .i64 (x).k.t, .int .i64 (x).k.c, .int .i64 (x).k.e, .int .i64 (x).b, .int .i64 (x).p.k.t, .int .i64 (x).p.k.c, .int .i64 (x).p.k.e, .int .i64 (x).p.id, .int .i64 (x).p.ver, .int .i64 (x).sz] 90)).heap.size := by have := hS.out; have := hg4.size; simp; omega
     have HLX : Hid (xs.length = j) := hlx
     have hjb : j ≤ 1000000 := by have := HJM.out; have := HK.out; omega
     clear hc hg4 h0 h1 HB4 hB hx hok hd hk5 hO hD hOk hX
     have hq5 : (w4.alloc (.cells #[.string (str (x).nm), .int .i64 (x).k.t, .int .i64 (x).k.c, .int .i64 (x).k.e, .int .i64 (x).b, .int .i64 (x).p.k.t, .int .i64 (x).p.k.c, .int .i64 (x).p.k.e, .int .i64 (x).p.id, .int .i64 (x).p.ver, .int .i64 (x).sz] 90)).heap.size = w4.heap.size + 1 := by simp
     go_wp2_with (at_builtin; refine wpList_appB _ rfl _ _ rfl (g + 1) A3 d3 xs j HLX.out rfl HO5.out x (w4.heap.size + 1) hq5 rfl hjb hS5 ?_)
     intro A6 d6 w6 hO6 hb6 hg6
     have HO6 : Hid (w6.ownsRow (g + 1) 90 11 (.slice A6 (j + 1) d6) (j + 1) (bcs (xs ++ [x]))) := hid (by rw [bcs_app, bcs_one]; exact hO6)
     have HD6 := hid (HD5.out.keep (w' := w6) fun k _ hk => hb6.block k (by omega))
     have HB6 := hid (HB5.out.trans (hb6.mono (by have := HGW.out; omega)))
     have HS6 : Hid (g + 1 ≤ w6.heap.size) := hid (Nat.le_trans hS5 hb6.size)
     clear hq5 c0 c1 c2 c3 c4 c5 c6 c7 c8 c9 c10 hO6 hb6 hg6 HO5 HD5 HB5 hS5
     go_wp2_with fail
     go_roundg (m - (j + 1))
     case measure => have := hgk.out; have := HJM.out; omega
     case rel => exact ⟨j + 1, A6, d6, xs ++ [x], r', rfl, rfl, hid rfl, hid HJM.out, hid (by rw [List.length_append, HLX.out]; rfl), HX5, HOK5, HO6, HD6, HB6, HS6⟩
 · have hjm : j = m := by have := hj.out; omega
   subst hjm
   have j2 : ¬ (j : Int) < (j : Int) := by omega
   have HE := hid (par_end (b := b) (xs := xs) (r := r) HZ.out (by have := HM.out; have := HK.out; omega) (by rw [HM.out]; exact hX.out) hOk.out)
   have hdn := done_good wr w.heap.size g r hD.out
   have HBR : Hid (BRow 90 wr (g + 1) A3 d3 xs) := hid (by unfold BRow; rw [hlx.out]; exact hO.out)
   have HSL : Hid (BSl wr wr.heap.size A3 j xs) := hid (by have := HBR.out.sl; rwa [hlx.out] at this)
   have HRI := hid (rising_c A3 j d3 xs wr HSL.out (by have := HK.out; omega))
   have HI6 : Hid (∀ x ∈ xs, i64ok x.b) := hid (fun x hx => by have := (hOk.out x hx).2.2.2.2.2.2.2; exact ⟨by omega, by omega⟩)
   clear hge hj hgk hX hOk hO hD
   cases hre : r.isEmpty
   · have HN : Hid (parB b = none) := hid (by rw [HE.out, if_neg]; rintro ⟨e, _⟩; rw [e] at hre; cases hre)
     rw [hre] at hdn
     go_wp2_with fail
     refine hdn.mono ?_
     rintro e w7 ⟨rfl, rfl⟩
     go_wp2
     go_ret2
     exact PRes.no HN.out hB.out
   rw [hre] at hdn
   go_wp2_with fail
   refine hdn.mono ?_
   rintro e w7 ⟨rfl, rfl⟩
   go_wp2_with fail
   refine HRI.out.mono ?_
   rintro e w8 ⟨rfl, hb8⟩
   have HB8 := hid (hB.out.trans (hb8.mono hB.out.size))
   have HSL8 : Hid (BSl w8 w8.heap.size A3 j xs) := hid (by
    have := HSL.out.keep hb8
    exact ⟨this.1, fun q hq => by obtain ⟨a1, a2, a3, a4, a5⟩ := this.2 q hq; exact ⟨a1, a2, a3, Nat.lt_of_lt_of_le a4 hb8.size, a5⟩⟩)
   have HBR8 : Hid (BRow 90 w8 (g + 1) A3 d3 xs) := hid (HBR.out.keep fun k hk => hb8.block k (own_lt HBR.out k hk))
   clear hb8 hB HSL HBR hdn
   by_cases h2 : xs.Pairwise risen
   · rw [decide_eq_true h2]
     go_wp2_with fail
     refine (apart_c A3 j d3 xs w8 HSL8.out (by have := HK.out; omega) HI6.out).mono ?_
     rintro e w9 ⟨rfl, hb9⟩
     have HB9 := hid (HB8.out.trans (hb9.mono HB8.out.size))
     have HBR9 : Hid (BRow 90 w9 (g + 1) A3 d3 xs) := hid (HBR8.out.keep fun k hk => hb9.block k (own_lt HBR8.out k hk))
     clear hb9
     by_cases h3 : (xs.map Bb.b).Nodup
     · rw [decide_eq_true h3]
       have HN : Hid (parB b = some xs) := hid (by rw [HE.out, if_pos]; exact ⟨List.isEmpty_iff.1 hre, h2, h3⟩)
       clear h2 h3 hre
       go_wp2
       go_ret2
       have hN := HN.out
       have hl := hlx.out
       refine ⟨A3, j, d3, by rw [hN]; rfl, by rw [hN]; exact hl.symm, ?_, HB9.out⟩
       rw [hN]
       exact ownsRow_base_a HBR9.out (by have := HGW.out; omega)
     · rw [decide_eq_false h3]
       have HN : Hid (parB b = none) := hid (by rw [HE.out, if_neg]; rintro ⟨_, _, e⟩; exact h3 e)
       clear h2 h3 hre
       go_wp2
       go_ret2
       exact PRes.no HN.out HB9.out
   · rw [decide_eq_false h2]
     have HN : Hid (parB b = none) := hid (by rw [HE.out, if_neg]; rintro ⟨_, e, _⟩; exact h2 e)
     clear h2 hre
     go_wp2
     go_ret2
     exact PRes.no HN.out HB8.out
def roE (d : St) (v : Va) (c : Ce) : Int := if gtE d v c = 90 then 0 else if gtE d v c ≠ 0 then gtE d v c else if (parB (gtB d v c)).isSome then 0 else 91
theorem soE_of {d : St} {v : Va} {c : Ce} (h2 : 2 ≤ d.n) : (roE d v c ≠ 0 → soE d v c = roE d v c) ∧ (roE d v c = 0 → soE d v c = if ∀ x ∈ soL d v c, x.b < d.n then 0 else 91) := by
 have e2 : ¬ d.n < 2 := by omega
 unfold soE roE soL
 by_cases h : gtE d v c = 90
 · simp only [if_neg e2, if_pos h]
   exact ⟨fun e => absurd rfl e, fun _ => by rw [if_pos (fun x hx => by cases hx)]⟩
 · simp only [if_neg e2, if_neg h]
   by_cases h0 : gtE d v c ≠ 0
   · simp only [if_pos h0]
     exact ⟨fun _ => trivial, fun e => absurd e h0⟩
   · simp only [if_neg h0]
     cases hp : parB (gtB d v c) with
     | none => exact ⟨fun _ => rfl, fun e => by cases e⟩
     | some l => exact ⟨fun e => absurd rfl e, fun _ => rfl⟩
theorem soL_rgt (d : St) (v : Va) (c : Ce) : Rgt (soL d v c) ∧ ∀ x ∈ soL d v c, x.wf := by
 unfold soL
 by_cases h : gtE d v c = 90
 · rw [if_pos h]
   exact ⟨⟨fun x hx => (by cases hx), List.Pairwise.nil, by simp⟩, fun x hx => by cases hx⟩
 · rw [if_neg h]
   cases hp : parB (gtB d v c) with
   | none => exact ⟨⟨fun x hx => (by cases hx), List.Pairwise.nil, by simp⟩, fun x hx => by cases hx⟩
   | some l => exact ⟨(parB_back hp).2.1, (parB_back hp).2.2⟩
theorem rise_of {l : List Bb} (h : Rgt l) : l.Pairwise risen := h.2.1.imp fun e => e.2
theorem Rm.new {n : Nat} (h : 2 ≤ n) : Rm (Sp.new n 2) n [] :=
 ⟨tf_len n 2 h, rfl, fun i hi => by
  show (tf n 2)[i]? = _ ↔ _
  rw [tf_get n 2 i h hi]
  simp⟩
theorem Rm.fr {s : Sp} {n : Nat} {P : List Bb} (h : Rm s n P) {i : Nat} (h2 : 2 ≤ i) (hi : i < n) (hP : ∀ y ∈ P, y.b ≠ (i : Int)) : s.T[i]? = some false := by
 have hl : i < s.T.length := by rw [h.len]; exact hi
 have h1 := h.tk i hi
 rw [List.getElem?_eq_getElem hl] at h1 ⊢
 cases hb : s.T[i] with
 | false => rfl
 | true =>
  rw [hb] at h1
  rcases h1.1 rfl with e | ⟨x, hx, e⟩
  · omega
  · exact absurd e (hP x hx)
theorem Rm.mark {s : Sp} {n : Nat} {P : List Bb} (h : Rm s n P) {x : Bb} (h2 : 2 ≤ x.b) (hP : ∀ y ∈ P, y.b ≠ x.b) : (s.fr x.b = decide (x.b < (n : Int))) ∧ (x.b < (n : Int) → Rm (s.mark x.b) n (P ++ [x])) := by
 obtain ⟨i, hi⟩ : ∃ i : Nat, x.b = (i : Int) := ⟨x.b.toNat, by omega⟩
 rw [hi] at h2 hP ⊢
 by_cases hlt : i < n
 · have hf := h.fr (by omega) hlt hP
   have e := Sp.fr_in hf
   refine ⟨by rw [e]; simp; omega, fun _ => ?_⟩
   have em : s.mark (i : Int) = s.put i true := by unfold Sp.mark; rw [e]; rfl
   rw [em]
   refine ⟨by rw [Sp.put_len]; exact h.len, h.r, fun j hj => ?_⟩
   show (s.T.set i true)[j]? = _ ↔ _
   rw [List.getElem?_set]
   by_cases eij : i = j
   · subst eij
     rw [if_pos rfl, if_pos (by rw [h.len]; exact hlt)]
     exact ⟨fun _ => .inr ⟨x, by simp, hi⟩, fun _ => rfl⟩
   · rw [if_neg eij, h.tk j hj]
     constructor
     · rintro (a | ⟨y, a, b⟩)
       · exact .inl a
       · exact .inr ⟨y, by simp [a], b⟩
     · rintro (a | ⟨y, a, b⟩)
       · exact .inl a
       · rw [List.mem_append, List.mem_singleton] at a
         rcases a with a | a
         · exact .inr ⟨y, a, b⟩
         · subst a; omega
 · refine ⟨?_, fun e => by omega⟩
   rw [s.fr_out _ (by unfold Sp.hs; rw [h.len]; simp; omega)]
   simp; omega
section
variable {C : Ob → Ob} {w wr : World} {gd gv gc : Nat} {d : St} {v : Va} {c : Ce} {X : Nat → Prop}
theorem rooted_on (hC : Foc C) (hOk : ∀ P : Ob, P.Ok → (C P).Ok) (h : On w (C (TC gd d gv v gc c)) wr X) (hv : c.ver ≤ 500000) (hm : c.mark ≤ 600000) :
 Calls Tryz.prog 46 #[.pointer (some ⟨gd, 0, none⟩), .pointer (some ⟨gv, 0, none⟩), .pointer (some ⟨gc, 0, none⟩)] wr fun e w' => ∃ A n k, e = .returned (.tuple #[.slice A n k, .int .i64 (roE d v c)]) ∧ Below wr.heap.size wr w' ∧ (roE d v c = 0 → n = (soL d v c).length ∧ BRow 90 w' wr.heap.size A k (soL d v c)) := by
 have hc := get_on hC hOk h hv hm
 have HE : Hid (roE d v c = if gtE d v c = 90 then 0 else if gtE d v c ≠ 0 then gtE d v c else if (parB (gtB d v c)).isSome then 0 else 91) := hid rfl
 have HL : Hid (soL d v c = if gtE d v c = 90 then [] else (parB (gtB d v c)).getD []) := hid rfl
 clear h hOk hC
 generalize roE d v c = E at *
 generalize soL d v c = L at *
 generalize gtE d v c = E1 at *
 generalize gtB d v c = B1 at *
 go_enter Tryz.func46, Tryz.ntmps46
 go_wp2_with fail
 refine hc.mono ?_
 rintro e w1 ⟨A1, n1, k1, rfl, ho1, hn1, hb1⟩
 have HO1 := hid ho1
 have HB1 := hid hb1
 have HN1 := hid hn1
 clear hc ho1 hb1 hn1
 by_cases h90 : E1 = 90
 · subst h90
   have HE2 := hid (HE.out.trans (if_pos rfl))
   have HL2 := hid (HL.out.trans (if_pos rfl))
   clear HE HL
   go_wp2
   go_ret2
   exact ⟨none, 0, 0, by rw [HE2.out]; rfl, HB1.out, fun _ => by rw [HL2.out]; exact ⟨rfl, BRow.nil _ _ _⟩⟩
 · have HE2 := hid (HE.out.trans (if_neg h90))
   have HL2 := hid (HL.out.trans (if_neg h90))
   have z1 : (E1 == 90) = false := beq_eq_false_iff_ne.2 h90
   have z2 : decide (E1 = 90) = false := decide_eq_false h90
   clear HE HL
   by_cases h0 : E1 = 0
   · subst h0
     have HE3 := hid (HE2.out.trans (if_neg (fun e => e rfl)))
     have hp := parse_c A1 n1 k1 B1 w1 ((Bts.own HO1.out).wide (Nat.zero_le _) (nl _)) (by have := HN1.out; omega)
     clear HE2 z1 z2 h90
     go_wp2_with fail
     refine hp.mono ?_
     rintro e w2 ⟨A2, n2, k2, rfl, hn2, ho2, hb2⟩
     have HB2 := hid (HB1.out.trans (hb2.mono HB1.out.size))
     have HO2 := hid ho2
     have HN2 := hid hn2
     have HS2 := hid hb2.size
     clear hp hn2 ho2 hb2
     cases hpp : parB B1 with
     | none =>
      rw [hpp] at HE3
      have HE4 := hid (HE3.out.trans (if_neg (by simp)))
      simp only [Option.isSome_none]
      clear HE3
      go_wp2
      go_ret2
      exact ⟨none, 0, 0, by rw [HE4.out]; rfl, HB2.out, fun e => by rw [HE4.out] at e; cases e⟩
     | some l =>
      rw [hpp] at HE3 HL2 HO2 HN2
      have HE4 := hid (HE3.out.trans (if_pos rfl))
      simp only [Option.isSome_some]
      clear HE3
      go_wp2
      go_ret2
      refine ⟨A2, n2, k2, by rw [HE4.out]; rfl, HB2.out, fun _ => ⟨by rw [HL2.out]; exact HN2.out, ?_⟩⟩
      rw [HL2.out]
      exact ownsRow_base_a HO2.out HB1.out.size
   · have HE3 := hid (HE2.out.trans (if_pos h0))
     have y1 : (E1 == 0) = false := beq_eq_false_iff_ne.2 h0
     have y2 : decide (E1 = 0) = false := decide_eq_false h0
     have y3 : (E1 != 0) = true := by rw [bne, y1]; rfl
     have HNZ := hid h0
     clear HE2 h0 h90
     go_wp2
     go_ret2
     exact ⟨none, 0, 0, by rw [HE3.out]; rfl, HB1.out, fun e => by rw [HE3.out] at e; exact absurd e HNZ.out⟩
theorem soE_two {d : St} {v : Va} {c : Ce} (h : d.n < 2) : soE d v c = 2 := if_pos h
theorem sopen_on (hC : Foc C) (hOk : ∀ P : Ob, P.Ok → (C P).Ok) (h : On w (C (TC gd d gv v gc c)) wr X) (hv : c.ver ≤ 500000) (hm : c.mark ≤ 600000) :
 Calls Tryz.prog 15 #[.pointer (some ⟨gd, 0, none⟩), .pointer (some ⟨gv, 0, none⟩), .pointer (some ⟨gc, 0, none⟩)] wr fun e w' => ∃ p, e = .returned (.tuple #[.pointer p, .int .i64 (soE d v c)]) ∧ Below wr.heap.size wr w' ∧ (soE d v c ≠ 0 → p = none) ∧
  (soE d v c = 0 → ∃ gs G, p = some ⟨gs, 0, none⟩ ∧ StO gs gd gv gc d.n (soL d v c) false w' G ∧ ∀ j, G j → wr.heap.size ≤ j) := by
 obtain ⟨F, hdev0, _⟩ := h.at_ (hC.comp (tc_d gv v gc c))
 have hdev : Dev wr F gd d := hdev0
 have hbl := blocks_c wr F gd d hdev
 have hdok := hdev.ok
 have HN1 : Hid (1 ≤ d.n ∧ d.n ≤ 4096) := hid ⟨hdok.n1, hdok.n2⟩
 have hro := rooted_on hC hOk h hv hm
 have HBL : Hid (∀ w', Below wr.heap.size wr w' → Calls Tryz.prog 45 #[.pointer (some ⟨gd, 0, none⟩)] w' fun e w'' => e = .returned (.int .i64 (d.n : Int)) ∧ w' = w'') := hid fun w' hb => blocks_c w' F gd d (hdev.bel hb)
 have HS2 := hid (@soE_two d v c)
 have HS := hid (@soE_of d v c)
 have HRG := hid (soL_rgt d v c)
 clear hdev0 hdev hdok h hC hOk hv hm
 generalize soE d v c = SE at *
 generalize soL d v c = L at *
 generalize roE d v c = RE at *
 generalize d.n = n at *
 go_enter Tryz.func15, Tryz.ntmps15
 go_wp2_with fail
 refine hbl.mono ?_
 rintro e w' ⟨rfl, rfl⟩
 clear hbl
 rcases Nat.lt_or_ge n 2 with h2 | h2
 · have HE := hid (HS2.out h2)
   have m1 : decide ((n : Int) < 2) = true := decide_eq_true (by omega)
   have m2 : decide (n < 2) = true := decide_eq_true h2
   clear hro h2
   go_wp2
   go_ret2
   exact ⟨none, by rw [HE.out]; rfl, Below.refl _ _, fun _ => rfl, fun e => by rw [HE.out] at e; cases e⟩
 have m1 : decide ((n : Int) < 2) = false := decide_eq_false (by omega)
 have m2 : decide (n < 2) = false := decide_eq_false (by omega)
 have HN2 := hid h2
 have HS3 := hid (HS.out h2)
 clear h2 HS HS2
 go_wp2_with fail
 clear m1 m2
 refine hro.mono ?_
 rintro e w1 ⟨A1, n1, k1, rfl, hb1, hr1⟩
 have HB1 := hid hb1
 have HR1 := hid hr1
 clear hro hb1 hr1
 by_cases h0 : RE = 0
 case neg =>
  have HE := hid (HS3.out.1 h0)
  have y1 : (RE == 0) = false := beq_eq_false_iff_ne.2 h0
  have y2 : decide (RE = 0) = false := decide_eq_false h0
  have y3 : (RE != 0) = true := by rw [bne, y1]; rfl
  have HNZ := hid h0
  clear h0
  go_wp2
  go_ret2
  exact ⟨none, by rw [HE.out]; rfl, HB1.out, fun _ => rfl, fun e => by rw [HE.out] at e; exact absurd e HNZ.out⟩
 have HE := hid (HS3.out.2 h0)
 obtain ⟨hn1, hrow⟩ := HR1.out h0
 subst h0
 have HLN := hid hn1
 have HROW := hid hrow
 have hb2 := HBL.out w1 HB1.out
 have hnew := snew_c (n : Int) 2 n 2 rfl rfl w1 HN1.out.1 HN1.out.2 HN2.out
 clear hn1 hrow HR1 HS3 HBL
 go_wp2_with fail
 refine hb2.mono ?_
 rintro e w' ⟨rfl, rfl⟩
 go_wp2_with fail
 refine hnew.mono ?_
 rintro e w2 ⟨rb, k, rfl, hmp, hb2', hrb, hk⟩
 have HMP := hid hmp
 have HB2 := hid hb2'
 have HRB := hid hrb
 have HKB := hid hk
 clear hb2 hnew hmp hb2' hrb hk
 have hmm := fun (m : Int) (w : World) => run_makeMapN Tryz.underlying122 m w
 go_wp2_with fail
 clear hmm
 have hb3 : Below w2.heap.size w2 ((w2.alloc (.map #[] 0)).alloc (.cells (soCells gd gv gc w2.heap.size rb false) 124)) := ((Below.refl w2.heap.size w2).alloc (nl _) _).alloc (by simp) _
 have hse : (w2.alloc (.map #[] 0)).heap.size = w2.heap.size + 1 := by simp
 have HSO : Hid (SoB ((w2.alloc (.map #[] 0)).alloc (.cells (soCells gd gv gc w2.heap.size rb false) 124)) (w2.heap.size + 1) gd gv gc n (L.take 0) false w2.heap.size rb k (Sp.new n 2)) := hid ⟨by
  have := Blk.new (w2.alloc (.map #[] 0)) 124 (soCells gd gv gc w2.heap.size rb false)
  rwa [hse] at this, (BMp.made w2).bel ((Below.refl _ _).alloc (nl _) _), HMP.out.bel hb3, Rm.new HN2.out⟩
 have HB3 := hid (HB2.out.trans (hb3.mono HB2.out.size))
 have HGS : Hid (w1.heap.size ≤ w2.heap.size) := hid HB2.out.size
 clear hb3 hse HMP HB2
 have hw3 : (w2.alloc (.map #[] 0)).alloc (.cells #[.pointer (some ⟨gd, 0, none⟩), .pointer (some ⟨gv, 0, none⟩), .pointer (some ⟨gc, 0, none⟩), .map (some w2.heap.size), .pointer (some ⟨rb, 0, none⟩), .bool false] 124) = (w2.alloc (.map #[] 0)).alloc (.cells (soCells gd gv gc w2.heap.size rb false) 124) := rfl
 rw [hw3]
 clear hw3
 generalize (w2.alloc (.map #[] 0)).alloc (.cells (soCells gd gv gc w2.heap.size rb false) 124) = w3 at *
 generalize w2.heap.size = mb at *
 go_loopg [57] n1 (fun kk iv wr => ∃ (j : Nat) (s : Sp), iv = .int .i64 (j : Int) ∧ Hid (kk = n1 - j) ∧ Hid (j ≤ n1) ∧ Hid (∀ x ∈ L.take j, x.b < (n : Int)) ∧ Hid (SoB wr (mb + 1) gd gv gc n (L.take j) false mb rb k s) ∧ Hid (Below w1.heap.size w1 wr))
 case atStart => exact ⟨0, Sp.new n 2, rfl, hid (by omega), hid (Nat.zero_le _), hid (fun x hx => by simp at hx), HSO, HB3⟩
 case round =>
 obtain ⟨j, s, rfl, hgk, hj, hin, hS, hB⟩ := hrel
 clear HSO HB3
 rcases Nat.lt_or_ge j n1 with hlt | hge
 · have HJN := hid hlt
   have hjl : j < L.length := by rw [← HLN.out]; exact hlt
   have j1 : (0 : Int) ≤ (j : Int) := by omega
   have j2 : (j : Int) < (n1 : Int) := by omega
   have j3 : decide ((j : Int) < (n1 : Int)) = true := by simpa using hlt
   have j4 : decide (j < n1) = true := by simpa using hlt
   have wj : wrap64 ((j : Int) + 1) = ((j + 1 : Nat) : Int) := by have := HRG.out.1.2.2; unfold wrap64; omega
   obtain ⟨lb, hA, hbl, hr0⟩ := HROW.out.elem hjl
   have hr1 := rangeAt_keep hr0 (hB.out.block lb hbl)
   have HXM := hid (List.getElem_mem hjl)
   have HTK := hid (List.take_succ_eq_append_getElem hjl)
   have HPW : Hid (∀ y ∈ L.take j, risen y L[j] ∧ y.b ≠ L[j].b) := hid (fun y hy => by
    obtain ⟨q, hq, rfl⟩ := List.mem_take_iff_getElem.1 hy
    have := List.pairwise_iff_getElem.1 HRG.out.1.2.1 q j (by omega) hjl (by omega)
    exact ⟨this.2, this.1⟩)
   generalize L[j] = x at *
   have HXO := hid (HRG.out.1.1 x HXM.out)
   obtain ⟨c0, c1, c2, c3, c4, c5, c6, c7, c8, c9, c10⟩ := range11 hr1
   have hb2 : Below wr.heap.size wr (wr.alloc (.cells #[.string (str (x).nm), .int .i64 (x).k.t, .int .i64 (x).k.c, .int .i64 (x).k.e, .int .i64 (x).b, .int .i64 (x).p.k.t, .int .i64 (x).p.k.c, .int .i64 (x).p.k.e, .int .i64 (x).p.id, .int .i64 (x).p.ver, .int .i64 (x).sz] 90)) := (Below.refl _ _).alloc (nl _) _
   have hS2 := hS.out.bel hb2
   have HB2 := hid (hB.out.trans (hb2.mono hB.out.size))
   have HS2 := hid hS2
   have hk2 := Blk.new wr 90 #[.string (str (x).nm), .int .i64 (x).k.t, .int .i64 (x).k.c, .int .i64 (x).k.e, .int .i64 (x).b, .int .i64 (x).p.k.t, .int .i64 (x).p.k.c, .int .i64 (x).p.k.e, .int .i64 (x).p.id, .int .i64 (x).p.ver, .int .i64 (x).sz]
   have HK2 := hid hk2
   obtain ⟨x0, x1, x2, x3, x4, x5, x6, x7, x8, x9, x10⟩ := bbB_cells (x := x) hk2
   have hmk := mark_any _ rb k s hS2.room x.b
   obtain ⟨e1, e2⟩ := hS2.rm.mark (x := x) (by have := HXO.out.2.2.2.2.2.2.2.1; omega) (fun y hy => (HPW.out y hy).2)
   rw [e1] at hmk
   have HRM := hid e2
   have HLTS : Hid ((mb + 1) < wr.heap.size ∧ mb < wr.heap.size ∧ rb < wr.heap.size ∧ k < wr.heap.size) := hid hS.out.lt
   subst hA
   clear hlt hjl hbl hr0 hr1 hb2 hS2 hk2 e1 e2 hS hB
   by_cases hbn : x.b < (n : Int)
   · rw [decide_eq_true hbn] at hmk
     have HIN : Hid (∀ y ∈ L.take (j + 1), y.b < (n : Int)) := hid (fun y hy => by
      rw [HTK.out, List.mem_append, List.mem_singleton] at hy
      rcases hy with hy | hy
      · exact hin.out y hy
      · rw [hy]; exact hbn)
     have HRM2 := hid (HRM.out hbn)
     clear hbn HRM hin
     go_wp2_with fail
     refine hmk.mono ?_
     rintro e w5 ⟨rfl, hML⟩
     obtain ⟨n1', n2', n3', n4', n5', n6'⟩ := HS2.out.ne
     have HNE : Hid (mb ≠ mb + 1 ∧ rb ≠ mb + 1 ∧ k ≠ mb + 1 ∧ mb ≠ rb ∧ mb ≠ k ∧ rb ≠ k) := hid ⟨n1', n2', n3', n4', n5', n6'⟩
     have HBK5 := hid (HS2.out.blk.keep (hML.2.block _ HS2.out.lt.1 (fun e => n3' e.symm)))
     have HMB5 := hid (HS2.out.map.keep (hML.2.block _ HS2.out.lt.2.1 n5'))
     have HMP5 := hid hML.1
     have HX5 : Hid (Blk w5 wr.heap.size 90 #[.string (str (x).nm), .int .i64 (x).k.t, .int .i64 (x).k.c, .int .i64 (x).k.e, .int .i64 (x).b, .int .i64 (x).p.k.t, .int .i64 (x).p.k.c, .int .i64 (x).p.k.e, .int .i64 (x).p.id, .int .i64 (x).p.ver, .int .i64 (x).sz]) := hid (HK2.out.keep (hML.2.block _ HK2.out.lt (by have := HLTS.out; omega)))
     have HB5 := hid (HB2.out.trans (hML.2.below (B := w1.heap.size) (fun q hq => by subst hq; exact HKB.out) HB2.out.size))
     clear hmk hML HS2 HB2 HK2 x0 x1 x2 x3 x4 x5 x6 x7 x8 x9 x10 c0 c1 c2 c3 c4 c5 c6 c7 c8 c9 c10 n1' n2' n3' n4' n5' n6'
     generalize wr.heap.size = bx at *
     go_wp2_with fail
     have HBK6 : Hid (Blk w5.drew (mb + 1) 124 (soCells gd gv gc mb rb false)) := hid HBK5.out
     have HMB6 : Hid (BMp w5.drew mb (L.take j)) := hid (HMB5.out.keep rfl)
     have HMP6 : Hid (Mp w5.drew rb k (s.mark x.b)) := hid (HMP5.out.keep rfl rfl)
     have HX6 : Hid (Blk w5.drew bx 90 #[.string (str (x).nm), .int .i64 (x).k.t, .int .i64 (x).k.c, .int .i64 (x).k.e, .int .i64 (x).b, .int .i64 (x).p.k.t, .int .i64 (x).p.k.c, .int .i64 (x).p.k.e, .int .i64 (x).p.id, .int .i64 (x).p.ver, .int .i64 (x).sz]) := hid HX5.out
     have HB6 := hid HB5.out.drew
     clear HBK5 HMB5 HMP5 HX5 HB5
     refine wp_region_held_drew (S := fun wx => wx.cell? ⟨mb + 1, 3, none⟩ = some (.map (some mb)) ∧ Blk wx bx 90 #[.string (str (x).nm), .int .i64 (x).k.t, .int .i64 (x).k.c, .int .i64 (x).k.e, .int .i64 (x).b, .int .i64 (x).p.k.t, .int .i64 (x).p.k.c, .int .i64 (x).p.k.e, .int .i64 (x).p.id, .int .i64 (x).p.ver, .int .i64 (x).sz]) (by kernel_rfl) ⟨(HBK6.out.cell 3).trans rfl, HX6.out⟩ (fun HS => ?_)
     generalize w5.drew = w6 at *
     refine qT 0 ?v0 ?y0 HS ?r0
     case y0 =>
      refine qI fun wS hSw => ?_
      have y3 := hSw.1
      go_simp
      try with_reducible rfl
     try simp only [Act.put, zA]
     refine qT 1 ?v1 ?y1 HS ?r1
     case y1 =>
      refine qI fun wS hSw => ?_
      have y3 := hSw.1
      go_simp
      try with_reducible rfl
     try simp only [Act.put, zA]
     refine qT 2 ?v2 ?y2 HS ?r2
     case y2 =>
      refine qI fun wS hSw => ?_
      have y3 := hSw.1
      go_simp
      try with_reducible rfl
     try simp only [Act.put, zA]
     refine qT 3 ?v3 ?y3 HS ?r3
     case y3 =>
      refine qI fun wS hSw => ?_
      have y3 := hSw.1
      go_simp
      try with_reducible rfl
     try simp only [Act.put, zA]
     refine qT 4 ?v4 ?y4 HS ?r4
     case y4 =>
      refine qI fun wS hSw => ?_
      have y3 := hSw.1
      go_simp
      try with_reducible rfl
     try simp only [Act.put, zA]
     refine qT 5 ?v5 ?y5 HS ?r5
     case y5 =>
      refine qI fun wS hSw => ?_
      have y3 := (bbB_cells (x := x) hSw.2).1
      go_simp
      try with_reducible rfl
     try simp only [Act.put, zA]
     refine qT 6 ?v6 ?y6 HS ?r6
     case y6 =>
      refine qI fun wS hSw => ?_
      refine Eq.trans (exec_loadB (.tmp 13) ?_ ?_ hSw.2) ?_
      all_goals rfl
     try simp only [Act.put, zA]
     refine qR 7 fun K hK => ?_
     refine wp_bmPut _ _ _ rfl HMB6.out rfl x rfl rfl (by have := HXO.out.1.2; unfold maxLen; omega) (by have := HRG.out.1.2.2; have : (L.take j).length ≤ L.length := List.length_take_le' _ _; unfold maxLen; omega) ?_
     intro w7 hB7 hg7
     refine hK.out _ _ ⟨((HBK6.out.keep (hg7.block _ HBK6.out.lt (by simp))).cell 3).trans rfl, HX6.out.keep (hg7.block _ HX6.out.lt (by have := HLTS.out; simp; omega))⟩ (fun HS => ?_)
     clear hK K
     try simp only [Act.put]
     refine qD ?_
     clear HS
     have HMB7 : Hid (BMp w7 mb (L.take (j + 1))) := hid (by rw [HTK.out, ← with_end (fun y hy => (HPW.out y hy).1)]; exact hB7)
     have HSO7 : Hid (SoB w7 (mb + 1) gd gv gc n (L.take (j + 1)) false mb rb k (s.mark x.b)) := hid ⟨HBK6.out.keep (hg7.block _ HBK6.out.lt (by have := HNE.out; simp)), HMB7.out, HMP6.out.keep (hg7.block _ HMP6.out.blk.lt (by have := HNE.out; simp; omega)) (hg7.block _ HMP6.out.row.lt (by have := HNE.out; simp; omega)), by rw [HTK.out]; exact HRM2.out⟩
     have HB7 := hid (HB6.out.grown hg7 HB6.out.size (fun q hq => by injection hq with hq; have := HGS.out; omega))
     clear hB7 hg7 HBK6 HMB6 HMP6 HX6 HB6 HMB7
     go_wp2_with fail
     go_roundg (n1 - (j + 1))
     case measure => have := hgk.out; have := HJN.out; omega
     case rel => exact ⟨j + 1, s.mark x.b, by first | rfl | rw [wj], hid rfl, hid HJN.out, HIN, HSO7, HB7⟩
   · rw [decide_eq_false hbn] at hmk
     have HE2 : Hid (SE = 91) := hid (by rw [HE.out, if_neg]; exact fun e => hbn (e x HXM.out))
     clear hbn HRM
     go_wp2_with fail
     refine hmk.mono ?_
     rintro e w5 ⟨rfl, hML⟩
     have HB5 := hid (HB2.out.trans (hML.2.below (B := w1.heap.size) (fun q hq => by subst hq; exact HKB.out) HB2.out.size))
     clear hmk hML HS2 HB2 HK2 x0 x1 x2 x3 x4 x5 x6 x7 x8 x9 x10 c0 c1 c2 c3 c4 c5 c6 c7 c8 c9 c10
     go_wp2
     go_ret2
     exact ⟨none, by rw [HE2.out]; rfl, HB1.out.trans (HB5.out.mono HB1.out.size), fun _ => rfl, fun e => by rw [HE2.out] at e; cases e⟩
 · have hjn : j = n1 := by have := hj.out; omega
   subst hjn
   have j2 : ¬ (j : Int) < (j : Int) := by omega
   have HT : Hid (L.take j = L) := hid (by rw [HLN.out, List.take_length])
   have HE2 : Hid (SE = 0) := hid (by rw [HE.out, if_pos]; rw [← HT.out]; exact hin.out)
   have HSL : Hid (SoB wr (mb + 1) gd gv gc n L false mb rb k s) := hid (by have := hS.out; rwa [HT.out] at this)
   clear hge hj hgk hin hS
   go_wp2
   go_ret2
   refine ⟨some ⟨mb + 1, 0, none⟩, by rw [HE2.out]; rfl, HB1.out.trans (hB.out.mono HB1.out.size), fun e => absurd HE2.out e, fun _ => ⟨mb + 1, rfl, fun q => q = mb + 1 ∨ q = mb ∨ q = rb ∨ q = k, ⟨mb, rb, k, s, HSL.out, fun _ => Iff.rfl⟩, fun q hq => ?_⟩⟩
   have h1 := HB1.out.size
   have h2 := HGS.out
   have h3 := HRB.out
   have h4 := HKB.out
   rcases hq with rfl | rfl | rfl | rfl <;> omega
end
end Go.Proofs.YtolaojkcofbkhaaGreat
