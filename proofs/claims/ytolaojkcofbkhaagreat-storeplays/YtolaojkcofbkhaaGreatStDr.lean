import Derived.Test.YtolaojkcofbkhaaGreatStSt
import Derived.Test.YtolaojkcofbkhaaGreatPkTx
import Derived.Test.YtolaojkcofbkhaaGreatNums
import Derived.Shelf.SlIter.Nil
namespace Go.Proofs.YtolaojkcofbkhaaGreat
set_option maxRecDepth 100000
set_option maxHeartbeats 2000000
open Go.RowKit
theorem Row.from_ {w w1 w' : World} {l : List UInt8} {e : Ending} (h : Row w1 l e w') (hb : Below w.heap.size w w1) : Row w l e w' := by
 obtain ⟨A, c, rfl, hc, ho, hb2⟩ := h
 exact ⟨A, c, rfl, hc, ownsRow_base_a ho hb.size, hb.trans (hb2.mono hb.size)⟩
theorem entB_len {x : Bb} (h : x.wf) : (entB x).length ≤ x.nm.length + 80 := by
 obtain ⟨h1, h2, h3, h4, h5, h6⟩ := h
 have a1 := num_len h2.1
 have a2 := num_len h2.2.1
 have a3 := num_len h2.2.2
 have a4 := num_len h3
 have a5 := num_len h4
 have a6 := num_len h5
 have a7 := num_len h6
 have a8 := nat_len_u64 h1
 simp only [entB, txtB, numsB, List.length_append, List.flatMap_cons, List.flatMap_nil, List.length_nil]
 omega
theorem numI_c (A : Option Addr) (n c : Nat) (y : Int) (l : List UInt8) (w : World) (h : Bts w 0 w.heap.size A n l) (hn : n ≤ 1000000000) (hy : i64ok y) :
 Calls Tryz.prog 120 #[.slice A n c, .int .i64 y] w (Row w (l ++ num y)) := number_c A n c y l w h hn hy.1 hy.2
theorem txtI_c (x : List UInt8) (w : World) (hx : x.length ≤ 100000000) : Calls Tryz.prog 119 #[.slice none 0 0, .string (str x)] w (Row w (txtB x)) := by
 have := text_c none 0 0 (str x) [] w (Bts.nil _ _ _ _) (by omega) (by rw [str_size]; omega)
 rw [str_size, str_data] at this
 simpa [txtB] using this
theorem entry_c (x : Bb) (hx : x.wf) (hn : x.nm.length ≤ 100000000) (w : World) : Calls Tryz.prog 79 #[(.agg #[.string (str (x).nm), .int .i64 (x).k.t, .int .i64 (x).k.c, .int .i64 (x).k.e, .int .i64 (x).b, .int .i64 (x).p.k.t, .int .i64 (x).p.k.c, .int .i64 (x).p.k.e, .int .i64 (x).p.id, .int .i64 (x).p.ver, .int .i64 (x).sz])] w (Row w (entB x)) := by
 have hb1 : Below w.heap.size w (w.alloc (.cells #[.string (str (x).nm), .int .i64 (x).k.t, .int .i64 (x).k.c, .int .i64 (x).k.e, .int .i64 (x).b, .int .i64 (x).p.k.t, .int .i64 (x).p.k.c, .int .i64 (x).p.k.e, .int .i64 (x).p.id, .int .i64 (x).p.ver, .int .i64 (x).sz] 90)) := (Below.refl _ _).alloc (nl _) _
 have hk1 := Blk.new w 90 #[.string (str (x).nm), .int .i64 (x).k.t, .int .i64 (x).k.c, .int .i64 (x).k.e, .int .i64 (x).b, .int .i64 (x).p.k.t, .int .i64 (x).p.k.c, .int .i64 (x).p.k.e, .int .i64 (x).p.id, .int .i64 (x).p.ver, .int .i64 (x).sz]
 have HB1 := hid hb1
 have HK1 := hid hk1
 obtain ⟨c0, c1, c2, c3, c4, c5, c6, c7, c8, c9, c10⟩ := bbB_cells (x := x) hk1
 have HX := hid hx
 have HN := hid hn
 have HT := hid fun w' => txtI_c x.nm w' hn
 have HL : Hid ((txtB x.nm).length ≤ 100000010) := hid (by have := nat_len_u64 hx.1; simp only [txtB, List.length_append]; omega)
 clear hb1 hk1 hx hn
 have i0 : ∀ wx : World, (Instr.index 203 (.agg #[.int .i64 x.k.t, .int .i64 x.k.c, .int .i64 x.k.e, .int .i64 x.b, .int .i64 x.p.id, .int .i64 x.p.ver, .int .i64 x.sz]) (.int .i64 0)).run Tryz.prog wx = .ok (.int .i64 x.k.t) wx := fun _ => by kernel_rfl
 have i1 : ∀ wx : World, (Instr.index 203 (.agg #[.int .i64 x.k.t, .int .i64 x.k.c, .int .i64 x.k.e, .int .i64 x.b, .int .i64 x.p.id, .int .i64 x.p.ver, .int .i64 x.sz]) (.int .i64 1)).run Tryz.prog wx = .ok (.int .i64 x.k.c) wx := fun _ => by kernel_rfl
 have i2 : ∀ wx : World, (Instr.index 203 (.agg #[.int .i64 x.k.t, .int .i64 x.k.c, .int .i64 x.k.e, .int .i64 x.b, .int .i64 x.p.id, .int .i64 x.p.ver, .int .i64 x.sz]) (.int .i64 2)).run Tryz.prog wx = .ok (.int .i64 x.k.e) wx := fun _ => by kernel_rfl
 have i3 : ∀ wx : World, (Instr.index 203 (.agg #[.int .i64 x.k.t, .int .i64 x.k.c, .int .i64 x.k.e, .int .i64 x.b, .int .i64 x.p.id, .int .i64 x.p.ver, .int .i64 x.sz]) (.int .i64 3)).run Tryz.prog wx = .ok (.int .i64 x.b) wx := fun _ => by kernel_rfl
 have i4 : ∀ wx : World, (Instr.index 203 (.agg #[.int .i64 x.k.t, .int .i64 x.k.c, .int .i64 x.k.e, .int .i64 x.b, .int .i64 x.p.id, .int .i64 x.p.ver, .int .i64 x.sz]) (.int .i64 4)).run Tryz.prog wx = .ok (.int .i64 x.p.id) wx := fun _ => by kernel_rfl
 have i5 : ∀ wx : World, (Instr.index 203 (.agg #[.int .i64 x.k.t, .int .i64 x.k.c, .int .i64 x.k.e, .int .i64 x.b, .int .i64 x.p.id, .int .i64 x.p.ver, .int .i64 x.sz]) (.int .i64 5)).run Tryz.prog wx = .ok (.int .i64 x.p.ver) wx := fun _ => by kernel_rfl
 have i6 : ∀ wx : World, (Instr.index 203 (.agg #[.int .i64 x.k.t, .int .i64 x.k.c, .int .i64 x.k.e, .int .i64 x.b, .int .i64 x.p.id, .int .i64 x.p.ver, .int .i64 x.sz]) (.int .i64 6)).run Tryz.prog wx = .ok (.int .i64 x.sz) wx := fun _ => by kernel_rfl
 go_enter Tryz.func79, Tryz.ntmps79
 go_wp2_with fail
 clear c0 c1 c2 c3 c4 c5 c6 c7 c8 c9 c10
 refine (HT.out _).mono ?_
 rintro e w2 hr
 obtain ⟨A2, n2, d2, rfl, hl2, hc2, ho2, hB2, hb2⟩ := hr.out
 have HL2 : Hid (n2 ≤ 100000010) := hid (by have := hl2.out; have := HL.out; omega)
 have HB2 := hid hB2
 have HW2 := hid (HB1.out.trans (hb2.mono HB1.out.size))
 obtain ⟨c0, c1, c2, c3, c4, c5, c6, c7, c8, c9, c10⟩ := bbB_cells (x := x) (HK1.out.keep (hb2.block _ HK1.out.lt))
 clear hr hl2 hc2 ho2 hB2 hb2 HL HK1 HB1 HT
 go_wp2_with fail
 clear c0 c1 c2 c3 c4 c5 c6 c7 c8 c9 c10
 refine wp_loop_rounds 8 ?_
 rw [rounds_succ]
 go_wp2_with fail
 refine (numI_c A2 n2 d2 x.k.t (txtB x.nm) w2 (HB2.out.wide (Nat.zero_le _) (nl _)) (by have := HL2.out; omega) HX.out.2.1.1).mono ?_
 rintro e w3 hr
 obtain ⟨A3, n3, d3, rfl, hl3, hc3, ho3, hB3, hb3⟩ := hr.out
 have HL3 : Hid (n3 ≤ 100000020) := hid (by have h1 := hl3.out; have h2 := HL2.out; have h3 := num_len HX.out.2.1.1; have h4 := HB2.out.len; rw [List.length_append] at h1; omega)
 have HB3 := hid hB3
 have HW3 := hid (HW2.out.trans (hb3.mono HW2.out.size))
 clear hr hl3 hc3 ho3 hB3 hb3 HL2 HB2 HW2
 go_wp2_with fail
 rw [rounds_succ]
 go_wp2_with fail
 refine (numI_c A3 n3 d3 x.k.c (txtB x.nm ++ num x.k.t) w3 (HB3.out.wide (Nat.zero_le _) (nl _)) (by have := HL3.out; omega) HX.out.2.1.2.1).mono ?_
 rintro e w4 hr
 obtain ⟨A4, n4, d4, rfl, hl4, hc4, ho4, hB4, hb4⟩ := hr.out
 have HL4 : Hid (n4 ≤ 100000030) := hid (by have h1 := hl4.out; have h2 := HL3.out; have h3 := num_len HX.out.2.1.2.1; have h4 := HB3.out.len; rw [List.length_append] at h1; omega)
 have HB4 := hid hB4
 have HW4 := hid (HW3.out.trans (hb4.mono HW3.out.size))
 clear hr hl4 hc4 ho4 hB4 hb4 HL3 HB3 HW3
 go_wp2_with fail
 rw [rounds_succ]
 go_wp2_with fail
 refine (numI_c A4 n4 d4 x.k.e (txtB x.nm ++ num x.k.t ++ num x.k.c) w4 (HB4.out.wide (Nat.zero_le _) (nl _)) (by have := HL4.out; omega) HX.out.2.1.2.2).mono ?_
 rintro e w5 hr
 obtain ⟨A5, n5, d5, rfl, hl5, hc5, ho5, hB5, hb5⟩ := hr.out
 have HL5 : Hid (n5 ≤ 100000040) := hid (by have h1 := hl5.out; have h2 := HL4.out; have h3 := num_len HX.out.2.1.2.2; have h4 := HB4.out.len; rw [List.length_append] at h1; omega)
 have HB5 := hid hB5
 have HW5 := hid (HW4.out.trans (hb5.mono HW4.out.size))
 clear hr hl5 hc5 ho5 hB5 hb5 HL4 HB4 HW4
 go_wp2_with fail
 rw [rounds_succ]
 go_wp2_with fail
 refine (numI_c A5 n5 d5 x.b (txtB x.nm ++ num x.k.t ++ num x.k.c ++ num x.k.e) w5 (HB5.out.wide (Nat.zero_le _) (nl _)) (by have := HL5.out; omega) HX.out.2.2.1).mono ?_
 rintro e w6 hr
 obtain ⟨A6, n6, d6, rfl, hl6, hc6, ho6, hB6, hb6⟩ := hr.out
 have HL6 : Hid (n6 ≤ 100000050) := hid (by have h1 := hl6.out; have h2 := HL5.out; have h3 := num_len HX.out.2.2.1; have h4 := HB5.out.len; rw [List.length_append] at h1; omega)
 have HB6 := hid hB6
 have HW6 := hid (HW5.out.trans (hb6.mono HW5.out.size))
 clear hr hl6 hc6 ho6 hB6 hb6 HL5 HB5 HW5
 go_wp2_with fail
 rw [rounds_succ]
 go_wp2_with fail
 refine (numI_c A6 n6 d6 x.p.id (txtB x.nm ++ num x.k.t ++ num x.k.c ++ num x.k.e ++ num x.b) w6 (HB6.out.wide (Nat.zero_le _) (nl _)) (by have := HL6.out; omega) HX.out.2.2.2.1).mono ?_
 rintro e w7 hr
 obtain ⟨A7, n7, d7, rfl, hl7, hc7, ho7, hB7, hb7⟩ := hr.out
 have HL7 : Hid (n7 ≤ 100000060) := hid (by have h1 := hl7.out; have h2 := HL6.out; have h3 := num_len HX.out.2.2.2.1; have h4 := HB6.out.len; rw [List.length_append] at h1; omega)
 have HB7 := hid hB7
 have HW7 := hid (HW6.out.trans (hb7.mono HW6.out.size))
 clear hr hl7 hc7 ho7 hB7 hb7 HL6 HB6 HW6
 go_wp2_with fail
 rw [rounds_succ]
 go_wp2_with fail
 refine (numI_c A7 n7 d7 x.p.ver (txtB x.nm ++ num x.k.t ++ num x.k.c ++ num x.k.e ++ num x.b ++ num x.p.id) w7 (HB7.out.wide (Nat.zero_le _) (nl _)) (by have := HL7.out; omega) HX.out.2.2.2.2.1).mono ?_
 rintro e w8 hr
 obtain ⟨A8, n8, d8, rfl, hl8, hc8, ho8, hB8, hb8⟩ := hr.out
 have HL8 : Hid (n8 ≤ 100000070) := hid (by have h1 := hl8.out; have h2 := HL7.out; have h3 := num_len HX.out.2.2.2.2.1; have h4 := HB7.out.len; rw [List.length_append] at h1; omega)
 have HB8 := hid hB8
 have HW8 := hid (HW7.out.trans (hb8.mono HW7.out.size))
 clear hr hl8 hc8 ho8 hB8 hb8 HL7 HB7 HW7
 go_wp2_with fail
 rw [rounds_succ]
 go_wp2_with fail
 refine (numI_c A8 n8 d8 x.sz (txtB x.nm ++ num x.k.t ++ num x.k.c ++ num x.k.e ++ num x.b ++ num x.p.id ++ num x.p.ver) w8 (HB8.out.wide (Nat.zero_le _) (nl _)) (by have := HL8.out; omega) HX.out.2.2.2.2.2).mono ?_
 rintro e w9 hr
 have HR := hid (hr.from_ HW8.out)
 obtain ⟨A9, n9, d9, rfl, hl9, -⟩ := hr.out
 clear hr hl9 HL8 HB8 HW8
 go_wp2_with fail
 rw [rounds_succ]
 go_wp2
 go_ret
 have e : txtB x.nm ++ num x.k.t ++ num x.k.c ++ num x.k.e ++ num x.b ++ num x.p.id ++ num x.p.ver ++ num x.sz = entB x := by simp [entB, numsB, List.append_assoc]
 rw [← e]
 exact HR.out
def BSl (w : World) (hi : Nat) (A : Option Addr) (n : Nat) (l : List Bb) : Prop := l.length = n ∧ ∀ j (h : j < l.length), ∃ b off, A = some ⟨b, off, none⟩ ∧ b < hi ∧ w.rangeAt b (off + j * 11) l[j].cells
theorem BSl.keep {w w' : World} {hi n : Nat} {A : Option Addr} {l : List Bb} (h : BSl w hi A n l) (hb : Below hi w w') : BSl w' hi A n l := ⟨h.1, fun j hj => by
 obtain ⟨b, off, h1, h2, h3⟩ := h.2 j hj
 exact ⟨b, off, h1, h2, rangeAt_keep h3 (hb.block b h2)⟩⟩
theorem BRow.sl {w : World} {base c : Nat} {A : Option Addr} {l : List Bb} (h : BRow 90 w base A c l) : BSl w w.heap.size A l.length l := ⟨rfl, fun j hj => by
 obtain ⟨b, h1, h2, h3⟩ := h.elem hj
 exact ⟨b, 0, h1, h2, by rw [Nat.zero_add]; exact h3⟩⟩
theorem range11 {w : World} {b o : Nat} {x : Bb} (h : w.rangeAt b o x.cells) : w.cell? ⟨b, o, none⟩ = some (.string (str x.nm)) ∧ w.cell? ⟨b, o + 1, none⟩ = some (.int .i64 x.k.t) ∧ w.cell? ⟨b, o + 2, none⟩ = some (.int .i64 x.k.c) ∧ w.cell? ⟨b, o + 3, none⟩ = some (.int .i64 x.k.e) ∧ w.cell? ⟨b, o + 4, none⟩ = some (.int .i64 x.b) ∧
 w.cell? ⟨b, o + 5, none⟩ = some (.int .i64 x.p.k.t) ∧ w.cell? ⟨b, o + 6, none⟩ = some (.int .i64 x.p.k.c) ∧ w.cell? ⟨b, o + 7, none⟩ = some (.int .i64 x.p.k.e) ∧ w.cell? ⟨b, o + 8, none⟩ = some (.int .i64 x.p.id) ∧ w.cell? ⟨b, o + 9, none⟩ = some (.int .i64 x.p.ver) ∧ w.cell? ⟨b, o + 10, none⟩ = some (.int .i64 x.sz) :=
 ⟨h 0 _ rfl, h 1 _ rfl, h 2 _ rfl, h 3 _ rfl, h 4 _ rfl, h 5 _ rfl, h 6 _ rfl, h 7 _ rfl, h 8 _ rfl, h 9 _ rfl, h 10 _ rfl⟩
theorem entsB_snoc {l : List Bb} {j : Nat} (hj : j < l.length) : entsB (l.take (j + 1)) = entsB (l.take j) ++ entB l[j] := by
 unfold entsB
 rw [List.take_succ_eq_append_getElem hj, List.flatMap_append]
 show _ ++ (entB l[j] ++ []) = _
 rw [List.append_nil]
theorem entsB_le (l : List Bb) (j : Nat) : (entsB (l.take j)).length ≤ (entsB l).length := by
 conv => rhs; rw [← List.take_append_drop j l]
 simp only [entsB, List.flatMap_append, List.length_append]
 omega
theorem hO2len {w : World} {base n c : Nat} {A : Option Addr} {l : List UInt8} (h : w.ownsRow base 5 1 (.slice A n c) n (bs l)) : l.length = n := by
 have := h.1
 rw [bs_len] at this
 omega
theorem World.ownsRow.below {w w' : World} {base : Nat} {e : TypeId} {z n c : Nat} {A : Option Addr} {xs : List Value} (h : w.ownsRow base e z (.slice A n c) n xs) (hb : Below w.heap.size w w') : w'.ownsRow base e z (.slice A n c) n xs :=
 own_keep h fun b hA => hb.block b (own_lt h b hA)
theorem directory_c (A : Option Addr) (n c : Nat) (l : List Bb) (w : World) (h : BSl w w.heap.size A n l) (hw : ∀ x ∈ l, x.wf) (hn : ∀ x ∈ l, x.nm.length ≤ 100000) (hl : n ≤ 1000000) (hs : (dirB l).length ≤ 100000000) :
 Calls Tryz.prog 39 #[.slice A n c] w (Row w (dirB l)) := by
 have HH := hid h
 have HW := hid hw
 have HN := hid hn
 have HS := hid hs
 have HLN : Hid (l.length = n) := hid h.1
 have HLL := hid hl
 have HNT := hid fun w' => natural_c none 0 0 n [] w' (Bts.nil _ _ _ _) (by omega) (by omega)
 have e1 : IntKind.u64.wrap (n : Int) = (n : Int) := IntWalk.u64_in _ (by omega)
 have HPN : Hid ((nat n).length ≤ 10) := hid (nat_len_u64 (by omega))
 clear h hw hn hs hl
 go_enter Tryz.func39, Tryz.ntmps39
 go_wp2_with fail
 refine (HNT.out _).mono ?_
 rintro e w1 hr
 obtain ⟨A1, n1, d1, rfl, hl1, hc1, ho1, hB1, hb1⟩ := hr.out
 have HO1 : Hid (w1.ownsRow w.heap.size 5 1 (.slice A1 n1 d1) n1 (bs (nat n ++ entsB (l.take 0)))) := hid (by simpa [entsB] using ho1)
 have HB1 := hid hb1
 clear hr hl1 hc1 ho1 hB1 hb1 HNT
 go_wp2_with fail
 go_loopg [3, 12] n (fun kk bv iv wr => ∃ (j : Nat) (A2 : Option Addr) (n2 d2 : Nat), bv = .slice A2 n2 d2 ∧ iv = .int .i64 (j : Int) ∧ Hid (kk = n - j) ∧ Hid (j ≤ n) ∧ Hid (wr.ownsRow w.heap.size 5 1 (.slice A2 n2 d2) n2 (bs (nat n ++ entsB (l.take j)))) ∧ Hid (Below w.heap.size w wr))
 case atStart => exact ⟨0, A1, n1, d1, rfl, rfl, hid (by omega), hid (Nat.zero_le _), HO1, HB1⟩
 case round =>
 obtain ⟨j, A2, n2, d2, rfl, rfl, hgk, hj, hO, hB⟩ := hrel
 clear HO1 HB1
 rcases Nat.lt_or_ge j n with hlt | hge
 · have HLT := hid hlt
   have hjl : j < l.length := by rw [HLN.out]; exact hlt
   obtain ⟨lb, off, rfl, hbl, hr0⟩ := HH.out.2 j hjl
   have hr1 := rangeAt_keep hr0 (hB.out.block lb hbl)
   have HSN := hid (entsB_snoc hjl)
   have HXW := hid (HW.out l[j] (List.getElem_mem _))
   have HXN := hid (HN.out l[j] (List.getElem_mem _))
   have HEL := hid (entB_len HXW.out)
   have HLE := hid (entsB_le l (j + 1))
   generalize l[j] = x at *
   obtain ⟨c0, c1, c2, c3, c4, c5, c6, c7, c8, c9, c10⟩ := range11 hr1
   have j1 : (0 : Int) ≤ (j : Int) := by omega
   have j2 : (j : Int) < (n : Int) := by omega
   have j3 : decide ((j : Int) < (n : Int)) = true := by simpa using hlt
   have j4 : decide (j < n) = true := by simpa using hlt
   have wj : wrap64 ((j : Int) + 1) = ((j + 1 : Nat) : Int) := by have := HLL.out; unfold wrap64; omega
   have hb2 : Below wr.heap.size wr (wr.alloc (.cells #[.string (str (x).nm), .int .i64 (x).k.t, .int .i64 (x).k.c, .int .i64 (x).k.e, .int .i64 (x).b, .int .i64 (x).p.k.t, .int .i64 (x).p.k.c, .int .i64 (x).p.k.e, .int .i64 (x).p.id, .int .i64 (x).p.ver, .int .i64 (x).sz] 90)) := (Below.refl _ _).alloc (nl _) _
   have HB2 := hid (hB.out.trans (hb2.mono hB.out.size))
   have HO2 := hid (hO.out.alloc (.cells #[.string (str (x).nm), .int .i64 (x).k.t, .int .i64 (x).k.c, .int .i64 (x).k.e, .int .i64 (x).b, .int .i64 (x).p.k.t, .int .i64 (x).p.k.c, .int .i64 (x).p.k.e, .int .i64 (x).p.id, .int .i64 (x).p.ver, .int .i64 (x).sz] 90))
   have HK2 := hid (Blk.new wr 90 #[.string (str (x).nm), .int .i64 (x).k.t, .int .i64 (x).k.c, .int .i64 (x).k.e, .int .i64 (x).b, .int .i64 (x).p.k.t, .int .i64 (x).p.k.c, .int .i64 (x).p.k.e, .int .i64 (x).p.id, .int .i64 (x).p.ver, .int .i64 (x).sz])
   clear hlt hjl hbl hr0 hr1 hb2 hO hB
   go_wp2_with fail
   refine (entry_c x HXW.out (by have := HXN.out; omega) _).mono ?_
   rintro e w3 hr
   obtain ⟨A3, n3, d3, rfl, hl3, hc3, ho3, hB3, hb3⟩ := hr.out
   have HO3 := hid (World.ownsRow.below HO2.out hb3)
   have HB3 := hid (HB2.out.trans (hb3.mono HB2.out.size))
   have hS3 : w.heap.size ≤ w3.heap.size := HB3.out.size
   have HDL : Hid (n2 + n3 ≤ 100000000) := hid (by
    have h1 := hO2len HO2.out
    have h2 := hl3.out
    have h3 := HS.out
    have h4 := HLE.out
    rw [HSN.out] at h4
    have h5 : (dirB l).length = (nat n).length + (entsB l).length := by rw [dirB, List.length_append, HLN.out]
    simp only [List.length_append] at h1 h4
    omega)
   have hB3l := hB3.lst
   clear hr hl3 hc3 ho3 hB3 hb3 HO2 HB2 HK2 c0 c1 c2 c3 c4 c5 c6 c7 c8 c9 c10 HXN HEL HLE
   go_wp2_with (at_builtin; refine wpList_appL _ rfl _ _ 51 rfl w.heap.size 5 (.int .u8 0) 1 Tryz.underlying51 Tryz.info5 rfl A2 n2 d2 _ rfl HO3.out _ _ A3 n3 d3 (bs (entB x)) rfl hB3l (bs_one _) ?hn1 ?hn2 hS3 ?_)
   case hn1 => have := HDL.out; omega
   case hn2 => have := HDL.out; unfold maxLen; omega
   intro A4 d4 w4 hc4 hO4 hg4 hb4 hS4
   have HO4 : Hid (w4.ownsRow w.heap.size 5 1 (.slice A4 (n2 + n3) d4) (n2 + n3) (bs (nat n ++ entsB (l.take (j + 1))))) := hid (by
    rw [HSN.out, ← List.append_assoc, bs_app]
    exact hO4)
   have HB4 := hid (HB3.out.trans hb4)
   clear hc4 hO4 hg4 hb4 hS4 hB3l HO3 HB3 hS3
   have HN23 : Hid (n2 + n3 = n2 + n3) := hid rfl
   generalize n2 + n3 = n5 at *
   go_wp2_with fail
   go_roundg (n - (j + 1))
   case measure => have := hgk.out; have := HLT.out; omega
   case rel => exact ⟨j + 1, A4, n5, d4, rfl, rfl, hid rfl, hid HLT.out, HO4, HB4⟩
 · have hjn : j = n := by have := hj.out; omega
   subst hjn
   have j2 : ¬ (j : Int) < (j : Int) := by omega
   have HF : Hid (Row w (dirB l) (.returned (.slice A2 n2 d2)) wr) := hid (by
    have e : nat j ++ entsB (l.take j) = dirB l := by rw [dirB, HLN.out, ← HLN.out, List.take_length]
    have ho := hO.out
    rw [e] at ho
    have hl := hO2len ho
    subst hl
    obtain ⟨A', c', h1, h2⟩ := own_form ho
    injection h1 with h3 _ h4
    subst h3 h4
    exact ⟨A2, d2, rfl, h2, ho, hB.out⟩)
   clear hge hj hgk hO hB
   go_wp2
   go_ret
   exact HF.out
end Go.Proofs.YtolaojkcofbkhaaGreat
