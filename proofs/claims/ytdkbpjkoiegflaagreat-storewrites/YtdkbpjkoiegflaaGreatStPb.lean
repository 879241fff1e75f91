/- What store.readEntry returns. Nothing is assumed. -/
import Derived.Test.YtdkbpjkoiegflaaGreatStPa
import Derived.Test.YtdkbpjkoiegflaaGreatStWh
namespace Go.Proofs.YtdkbpjkoiegflaaGreat
open Go.RowKit

theorem grown_below_row {a b : World} (h : Below a.heap.size a b) : a.grownBy b none := ⟨h.os, h.tape, h.output, h.size, fun k hk _ => h.block k hk⟩
theorem rdI_any (w : World) (lo g : Nat) (l : List UInt8) (h : Rd w lo g l) :
    Calls Tryz.prog 116 #[.pointer (some ⟨g, 0, none⟩)] w fun e w' => ∃ (ok : Bool) (x : Int), e = .returned (.tuple #[.int .i64 x, .bool ok]) ∧ w.grownBy w' (some g) ∧ (ok = false → rdI l = none) ∧ (ok = true → ∃ r, rdI l = some (x, r) ∧ Rd w' lo g r) := by
  rcases Nat.eq_zero_or_pos (rd l).2 with hz | hz
  · refine (rnum_none w lo g l h hz).mono ?_
    rintro e w' ⟨rfl, -, hg⟩
    exact ⟨false, 0, rfl, hg, fun _ => if_pos hz, fun h => by cases h⟩
  · refine (rnum_some w lo g l h hz).mono ?_
    rintro e w' ⟨rfl, hr, hg⟩
    exact ⟨true, _, rfl, hg, fun h => (by cases h), fun _ => ⟨_, if_neg (by omega), hr⟩⟩
theorem rdT_any (w : World) (lo g : Nat) (l : List UInt8) (h : Rd w lo g l) :
    Calls Tryz.prog 115 #[.pointer (some ⟨g, 0, none⟩)] w fun e w' => ∃ (ok : Bool) (x : List UInt8), e = .returned (.tuple #[.string (str x), .bool ok]) ∧ w.grownBy w' (some g) ∧ (ok = false → rdT l = none) ∧ (ok = true → ∃ r, rdT l = some (x, r) ∧ Rd w' lo g r) := by
  rcases Nat.eq_zero_or_pos (rd l).2 with hz | hz
  · refine (rtxt_none w lo g l h hz).mono ?_
    rintro e w' ⟨rfl, -, hg⟩
    exact ⟨false, [], rfl, hg, fun _ => if_pos (.inl hz), fun h => by cases h⟩
  · rcases Nat.lt_or_ge (l.drop (rd l).2).length (rd l).1 with hl | hl
    · refine (rtxt_long w lo g l h hz hl).mono ?_
      rintro e w' ⟨rfl, -, hg⟩
      exact ⟨false, [], rfl, hg, fun _ => if_pos (.inr hl), fun h => by cases h⟩
    · refine (rtxt_some w lo g l h hz hl).mono ?_
      rintro e w' ⟨rfl, hr, hg⟩
      exact ⟨true, _, rfl, hg, fun h => (by cases h), fun _ => ⟨_, if_neg (by omega), hr⟩⟩
/-- What readEntry answers. -/
def REnt (w : World) (lo g : Nat) (l : List UInt8) (e : Ending) (w' : World) : Prop :=
  ∃ (ok : Bool) (x : Bb), e = .returned (.tuple #[(.agg #[.string (str (x).nm), .int .i64 (x).k.t, .int .i64 (x).k.c, .int .i64 (x).k.e, .int .i64 (x).b, .int .i64 (x).p.k.t, .int .i64 (x).p.k.c, .int .i64 (x).p.k.e, .int .i64 (x).p.id, .int .i64 (x).p.ver, .int .i64 (x).sz]), .bool ok]) ∧ w.grownBy w' (some g) ∧ (ok = false → ∀ y r, rdBl l = some (y, r) → ¬ bbOk y) ∧ (ok = true → ∃ r, rdBl l = some (x, r) ∧ bbOk x ∧ Rd w' lo g r)
theorem strn : ByteArray.mk #[] = str [] := rfl
theorem REnt.none_ {w w' : World} {lo g : Nat} {l : List UInt8} (hg : w.grownBy w' (some g)) (h : rdBl l = none) : REnt w lo g l (.returned (.tuple #[(.agg #[.string (str (bb0).nm), .int .i64 (bb0).k.t, .int .i64 (bb0).k.c, .int .i64 (bb0).k.e, .int .i64 (bb0).b, .int .i64 (bb0).p.k.t, .int .i64 (bb0).p.k.c, .int .i64 (bb0).p.k.e, .int .i64 (bb0).p.id, .int .i64 (bb0).p.ver, .int .i64 (bb0).sz]), .bool false])) w' := by
  refine ⟨false, bb0, rfl, hg, fun _ y r e => ?_, fun e => by cases e⟩
  rw [h] at e
  cases e
theorem gr_set {w w1 : World} {g b o : Nat} {u : Value} (h : w.grownBy w1 (some g)) (hb : w.heap.size ≤ b) : w.grownBy (w1.setCell ⟨b, o, none⟩ u) (some g) :=
  h.andThen (grown_setCell w1 b o u) fun j hj => .inl (by injection hj with hj; omega)
theorem rdBl_no {l : List UInt8} (h : rdT l = none) : rdBl l = none := by unfold rdBl; rw [h]
theorem rdBl_no2 {l nm r : List UInt8} (h : rdT l = some (nm, r)) (h2 : rdIs 7 r = none) : rdBl l = none := by unfold rdBl; rw [h]; dsimp only; rw [h2]
theorem rdBl_yes {l nm r r' : List UInt8} {a b c d e f g : Int} (h : rdT l = some (nm, r)) (h2 : rdIs 7 r = some ([a, b, c, d, e, f, g], r')) : rdBl l = some (⟨nm, ⟨a, b, c⟩, d, ⟨⟨a, b, c⟩, e, f⟩, g⟩, r') := by unfold rdBl; rw [h]; dsimp only; rw [h2]; rfl
theorem keep_set {w : World} {b o k : Nat} {u : Value} (h : k ≠ b) : (w.setCell ⟨b, o, none⟩ u).heap[k]? = w.heap[k]? := Below.heap_setCell w ⟨b, o, none⟩ u k (by simpa using h)
set_option maxRecDepth 100000 in
set_option maxHeartbeats 4000000 in
theorem readEntry_c (w : World) (lo g : Nat) (l : List UInt8) (h : Rd w lo g l) : Calls Tryz.prog 72 #[.pointer (some ⟨g, 0, none⟩)] w (REnt w lo g l) := by
  have HGL := hid h.lt
  have HR := hid h
  clear h
  go_enter Tryz.func72, Tryz.ntmps72
  have hr2 := HR.out.keep (w' := (w.alloc (.cells #[.string (str (bb0).nm), .int .i64 (bb0).k.t, .int .i64 (bb0).k.c, .int .i64 (bb0).k.e, .int .i64 (bb0).b, .int .i64 (bb0).p.k.t, .int .i64 (bb0).p.k.c, .int .i64 (bb0).p.k.e, .int .i64 (bb0).p.id, .int .i64 (bb0).p.ver, .int .i64 (bb0).sz] 90)).alloc (.cells #[.string (str (bb0).nm), .int .i64 (bb0).k.t, .int .i64 (bb0).k.c, .int .i64 (bb0).k.e, .int .i64 (bb0).b, .int .i64 (bb0).p.k.t, .int .i64 (bb0).p.k.c, .int .i64 (bb0).p.k.e, .int .i64 (bb0).p.id, .int .i64 (bb0).p.ver, .int .i64 (bb0).sz] 90)) (fun k _ hk => (((Below.refl w.heap.size w).alloc (Nat.le_refl _) _).alloc (by simp) _).block k (by have := HGL.out; omega))
  have hkB : Blk ((w.alloc (.cells #[.string (str (bb0).nm), .int .i64 (bb0).k.t, .int .i64 (bb0).k.c, .int .i64 (bb0).k.e, .int .i64 (bb0).b, .int .i64 (bb0).p.k.t, .int .i64 (bb0).p.k.c, .int .i64 (bb0).p.k.e, .int .i64 (bb0).p.id, .int .i64 (bb0).p.ver, .int .i64 (bb0).sz] 90)).alloc (.cells #[.string (str (bb0).nm), .int .i64 (bb0).k.t, .int .i64 (bb0).k.c, .int .i64 (bb0).k.e, .int .i64 (bb0).b, .int .i64 (bb0).p.k.t, .int .i64 (bb0).p.k.c, .int .i64 (bb0).p.k.e, .int .i64 (bb0).p.id, .int .i64 (bb0).p.ver, .int .i64 (bb0).sz] 90)) w.heap.size 90 #[.string (str []), .int .i64 0, .int .i64 0, .int .i64 0, .int .i64 0, .int .i64 0, .int .i64 0, .int .i64 0, .int .i64 0, .int .i64 0, .int .i64 0] := (Blk.new w 90 #[.string (str (bb0).nm), .int .i64 (bb0).k.t, .int .i64 (bb0).k.c, .int .i64 (bb0).k.e, .int .i64 (bb0).b, .int .i64 (bb0).p.k.t, .int .i64 (bb0).p.k.c, .int .i64 (bb0).p.k.e, .int .i64 (bb0).p.id, .int .i64 (bb0).p.ver, .int .i64 (bb0).sz]).keep (((Below.refl (w.heap.size + 1) _).alloc (by simp) _).block _ (by omega))
  have hkX : Blk ((w.alloc (.cells #[.string (str (bb0).nm), .int .i64 (bb0).k.t, .int .i64 (bb0).k.c, .int .i64 (bb0).k.e, .int .i64 (bb0).b, .int .i64 (bb0).p.k.t, .int .i64 (bb0).p.k.c, .int .i64 (bb0).p.k.e, .int .i64 (bb0).p.id, .int .i64 (bb0).p.ver, .int .i64 (bb0).sz] 90)).alloc (.cells #[.string (str (bb0).nm), .int .i64 (bb0).k.t, .int .i64 (bb0).k.c, .int .i64 (bb0).k.e, .int .i64 (bb0).b, .int .i64 (bb0).p.k.t, .int .i64 (bb0).p.k.c, .int .i64 (bb0).p.k.e, .int .i64 (bb0).p.id, .int .i64 (bb0).p.ver, .int .i64 (bb0).sz] 90)) (w.heap.size + 1) 90 #[.string (str []), .int .i64 0, .int .i64 0, .int .i64 0, .int .i64 0, .int .i64 0, .int .i64 0, .int .i64 0, .int .i64 0, .int .i64 0, .int .i64 0] := by
    have := Blk.new (w.alloc (.cells #[.string (str (bb0).nm), .int .i64 (bb0).k.t, .int .i64 (bb0).k.c, .int .i64 (bb0).k.e, .int .i64 (bb0).b, .int .i64 (bb0).p.k.t, .int .i64 (bb0).p.k.c, .int .i64 (bb0).p.k.e, .int .i64 (bb0).p.id, .int .i64 (bb0).p.ver, .int .i64 (bb0).sz] 90)) 90 #[.string (str (bb0).nm), .int .i64 (bb0).k.t, .int .i64 (bb0).k.c, .int .i64 (bb0).k.e, .int .i64 (bb0).b, .int .i64 (bb0).p.k.t, .int .i64 (bb0).p.k.c, .int .i64 (bb0).p.k.e, .int .i64 (bb0).p.id, .int .i64 (bb0).p.ver, .int .i64 (bb0).sz]
    have e : (w.alloc (.cells #[.string (str (bb0).nm), .int .i64 (bb0).k.t, .int .i64 (bb0).k.c, .int .i64 (bb0).k.e, .int .i64 (bb0).b, .int .i64 (bb0).p.k.t, .int .i64 (bb0).p.k.c, .int .i64 (bb0).p.k.e, .int .i64 (bb0).p.id, .int .i64 (bb0).p.ver, .int .i64 (bb0).sz] 90)).heap.size = w.heap.size + 1 := by simp
    rw [e] at this
    exact this
  have hG2 : w.grownBy ((w.alloc (.cells #[.string (str (bb0).nm), .int .i64 (bb0).k.t, .int .i64 (bb0).k.c, .int .i64 (bb0).k.e, .int .i64 (bb0).b, .int .i64 (bb0).p.k.t, .int .i64 (bb0).p.k.c, .int .i64 (bb0).p.k.e, .int .i64 (bb0).p.id, .int .i64 (bb0).p.ver, .int .i64 (bb0).sz] 90)).alloc (.cells #[.string (str (bb0).nm), .int .i64 (bb0).k.t, .int .i64 (bb0).k.c, .int .i64 (bb0).k.e, .int .i64 (bb0).b, .int .i64 (bb0).p.k.t, .int .i64 (bb0).p.k.c, .int .i64 (bb0).p.k.e, .int .i64 (bb0).p.id, .int .i64 (bb0).p.ver, .int .i64 (bb0).sz] 90)) (some g) := (World.grownBy_alloc w _ _).trans (World.grownBy_alloc _ _ _)
  have hS2 : w.heap.size + 1 < ((w.alloc (.cells #[.string (str (bb0).nm), .int .i64 (bb0).k.t, .int .i64 (bb0).k.c, .int .i64 (bb0).k.e, .int .i64 (bb0).b, .int .i64 (bb0).p.k.t, .int .i64 (bb0).p.k.c, .int .i64 (bb0).p.k.e, .int .i64 (bb0).p.id, .int .i64 (bb0).p.ver, .int .i64 (bb0).sz] 90)).alloc (.cells #[.string (str (bb0).nm), .int .i64 (bb0).k.t, .int .i64 (bb0).k.c, .int .i64 (bb0).k.e, .int .i64 (bb0).b, .int .i64 (bb0).p.k.t, .int .i64 (bb0).p.k.c, .int .i64 (bb0).p.k.e, .int .i64 (bb0).p.id, .int .i64 (bb0).p.ver, .int .i64 (bb0).sz] 90)).heap.size := by simp
  have HKB := hid hkB
  have HKX := hid hkX
  have HG2 := hid hG2
  have hcall := rdT_any _ lo g l hr2
  clear hr2 hkB hkX hG2 hS2
  go_wp2_with fail
  refine hcall.mono ?_
  rintro e w3 ⟨ok, nm, rfl, hg3, h0, h1⟩
  clear hcall
  have HB0 : Hid (w.heap.size ≤ w.heap.size) := hid (Nat.le_refl _)
  obtain ⟨B, hB⟩ : ∃ B, w.heap.size = B := ⟨_, rfl⟩
  rw [hB] at HKB HKX HGL ⊢
  have HBE := hid hB
  have hX3 := HKX.out.keep (hg3.block _ HKX.out.lt (by have := HGL.out; simp; omega))
  have hB3 := HKB.out.keep (hg3.block _ HKB.out.lt (by have := HGL.out; simp; omega))
  have HG3 := hid (HG2.out.trans hg3)
  have HX3 := hid hX3
  have HB3 := hid hB3
  clear hg3 HKX HKB HG2 hB HB0
  have x0 : w3.cell? ⟨B + 1, 0, none⟩ = some (.string (str [])) := (hX3.cell 0).trans rfl
  have y0 : w3.frozen? ⟨B + 1, 0, none⟩ = false := hX3.frozen 0
  cases ok
  · have HN := hid (rdBl_no (h0 rfl))
    clear h0 h1
    have hBq := hB3.keep (w' := w3.setCell ⟨B + 1, 0, none⟩ (.string (str nm))) (keep_set (by omega))
    have HGX : Hid (w.grownBy (w3.setCell ⟨B + 1, 0, none⟩ (.string (str nm))) (some g)) := hid (gr_set HG3.out (by have := HBE.out; omega))
    clear hB3 hX3 HG3 HX3 HB3
    go_wp2_with (refine wpList_storeB rfl _ _ rfl hBq rfl rfl bb0 rfl ?_)
    intro wz hBz hgz
    have HGZ : Hid (w.grownBy wz (some g)) := hid (HGX.out.andThen hgz fun j hj => .inl (by injection hj with hj; have := HBE.out; omega))
    go_wp2
    refine bodyPost_ret (res_B rfl hBz rfl rfl) rfl (REnt.none_ HGZ.out HN.out)
  obtain ⟨r3, hq, hd3⟩ := h1 rfl
  have HT := hid hq
  have HD4 := hid (hd3.keep (w' := w3.setCell ⟨B + 1, 0, none⟩ (.string (str nm))) fun k _ hk => keep_set (by have := HGL.out; omega))
  have HX4 : Hid (Blk (w3.setCell ⟨B + 1, 0, none⟩ (.string (str nm))) (B + 1) 90 #[.string (str nm), .int .i64 0, .int .i64 0, .int .i64 0, .int .i64 0, .int .i64 0, .int .i64 0, .int .i64 0, .int .i64 0, .int .i64 0, .int .i64 0]) := hid (hX3.store 0 _)
  have HB4 : Hid (Blk (w3.setCell ⟨B + 1, 0, none⟩ (.string (str nm))) B 90 #[.string (str []), .int .i64 0, .int .i64 0, .int .i64 0, .int .i64 0, .int .i64 0, .int .i64 0, .int .i64 0, .int .i64 0, .int .i64 0, .int .i64 0]) := hid (hB3.keep (keep_set (by omega)))
  have HG4 : Hid (w.grownBy (w3.setCell ⟨B + 1, 0, none⟩ (.string (str nm))) (some g)) := hid (gr_set HG3.out (by have := HBE.out; omega))
  clear h0 h1 hq hd3 hX3 hB3 HG3 HX3 HB3
  go_wp2_with fail
  clear x0 y0
  generalize w3.setCell ⟨B + 1, 0, none⟩ (.string (str nm)) = w4 at *
  have i0 : ∀ wx : World, (Instr.index 199 (.agg #[.pointer (some ⟨B + 1, 1, none⟩), .pointer (some ⟨B + 1, 2, none⟩), .pointer (some ⟨B + 1, 3, none⟩), .pointer (some ⟨B + 1, 4, none⟩), .pointer (some ⟨B + 1, 8, none⟩), .pointer (some ⟨B + 1, 9, none⟩), .pointer (some ⟨B + 1, 10, none⟩)]) (.int .i64 0)).run Tryz.prog wx = .ok (.pointer (some ⟨B + 1, 1, none⟩)) wx := fun _ => by kernel_rfl
  have i1 : ∀ wx : World, (Instr.index 199 (.agg #[.pointer (some ⟨B + 1, 1, none⟩), .pointer (some ⟨B + 1, 2, none⟩), .pointer (some ⟨B + 1, 3, none⟩), .pointer (some ⟨B + 1, 4, none⟩), .pointer (some ⟨B + 1, 8, none⟩), .pointer (some ⟨B + 1, 9, none⟩), .pointer (some ⟨B + 1, 10, none⟩)]) (.int .i64 1)).run Tryz.prog wx = .ok (.pointer (some ⟨B + 1, 2, none⟩)) wx := fun _ => by kernel_rfl
  have i2 : ∀ wx : World, (Instr.index 199 (.agg #[.pointer (some ⟨B + 1, 1, none⟩), .pointer (some ⟨B + 1, 2, none⟩), .pointer (some ⟨B + 1, 3, none⟩), .pointer (some ⟨B + 1, 4, none⟩), .pointer (some ⟨B + 1, 8, none⟩), .pointer (some ⟨B + 1, 9, none⟩), .pointer (some ⟨B + 1, 10, none⟩)]) (.int .i64 2)).run Tryz.prog wx = .ok (.pointer (some ⟨B + 1, 3, none⟩)) wx := fun _ => by kernel_rfl
  have i3 : ∀ wx : World, (Instr.index 199 (.agg #[.pointer (some ⟨B + 1, 1, none⟩), .pointer (some ⟨B + 1, 2, none⟩), .pointer (some ⟨B + 1, 3, none⟩), .pointer (some ⟨B + 1, 4, none⟩), .pointer (some ⟨B + 1, 8, none⟩), .pointer (some ⟨B + 1, 9, none⟩), .pointer (some ⟨B + 1, 10, none⟩)]) (.int .i64 3)).run Tryz.prog wx = .ok (.pointer (some ⟨B + 1, 4, none⟩)) wx := fun _ => by kernel_rfl
  have i4 : ∀ wx : World, (Instr.index 199 (.agg #[.pointer (some ⟨B + 1, 1, none⟩), .pointer (some ⟨B + 1, 2, none⟩), .pointer (some ⟨B + 1, 3, none⟩), .pointer (some ⟨B + 1, 4, none⟩), .pointer (some ⟨B + 1, 8, none⟩), .pointer (some ⟨B + 1, 9, none⟩), .pointer (some ⟨B + 1, 10, none⟩)]) (.int .i64 4)).run Tryz.prog wx = .ok (.pointer (some ⟨B + 1, 8, none⟩)) wx := fun _ => by kernel_rfl
  have i5 : ∀ wx : World, (Instr.index 199 (.agg #[.pointer (some ⟨B + 1, 1, none⟩), .pointer (some ⟨B + 1, 2, none⟩), .pointer (some ⟨B + 1, 3, none⟩), .pointer (some ⟨B + 1, 4, none⟩), .pointer (some ⟨B + 1, 8, none⟩), .pointer (some ⟨B + 1, 9, none⟩), .pointer (some ⟨B + 1, 10, none⟩)]) (.int .i64 5)).run Tryz.prog wx = .ok (.pointer (some ⟨B + 1, 9, none⟩)) wx := fun _ => by kernel_rfl
  have i6 : ∀ wx : World, (Instr.index 199 (.agg #[.pointer (some ⟨B + 1, 1, none⟩), .pointer (some ⟨B + 1, 2, none⟩), .pointer (some ⟨B + 1, 3, none⟩), .pointer (some ⟨B + 1, 4, none⟩), .pointer (some ⟨B + 1, 8, none⟩), .pointer (some ⟨B + 1, 9, none⟩), .pointer (some ⟨B + 1, 10, none⟩)]) (.int .i64 6)).run Tryz.prog wx = .ok (.pointer (some ⟨B + 1, 10, none⟩)) wx := fun _ => by kernel_rfl
  refine wp_loop_rounds 8 ?_
  rw [rounds_succ]
  have hcall := rdI_any w4 lo g r3 HD4.out
  go_wp2_with fail
  refine hcall.mono ?_
  rintro e w5 ⟨ok, x0, rfl, hg, h0, h1⟩
  have hX5 := HX4.out.keep (hg.block _ HX4.out.lt (by have := HGL.out; simp; omega))
  have hB5 := HB4.out.keep (hg.block _ HB4.out.lt (by have := HGL.out; simp; omega))
  have HG5 := hid (HG4.out.trans hg)
  have HX5 := hid hX5
  have HB5 := hid hB5
  clear hcall hg HX4 HB4 HG4 HD4 i0
  have z0 : w5.cell? ⟨B + 1, 1, none⟩ = some (.int .i64 0) := (hX5.cell 1).trans rfl
  have y0 : w5.frozen? ⟨B + 1, 1, none⟩ = false := hX5.frozen 1
  cases ok
  · have HN := hid (rdBl_no2 HT.out (by simp [rdIs, h0 rfl]))
    clear h0 h1
    have hBq := hB5.keep (w' := w5.setCell ⟨B + 1, 1, none⟩ (.int .i64 x0)) (keep_set (by omega))
    have HGX : Hid (w.grownBy (w5.setCell ⟨B + 1, 1, none⟩ (.int .i64 x0)) (some g)) := hid (gr_set HG5.out (by have := HBE.out; omega))
    clear hB5 hX5 HG5 HX5 HB5
    go_wp2_with (refine wpList_storeB rfl _ _ rfl hBq rfl rfl bb0 rfl ?_)
    intro wz hBz hgz
    have HGZ : Hid (w.grownBy wz (some g)) := hid (HGX.out.andThen hgz fun j hj => .inl (by injection hj with hj; have := HBE.out; omega))
    go_wp2
    refine bodyPost_ret (res_B rfl hBz rfl rfl) rfl (REnt.none_ HGZ.out HN.out)
  obtain ⟨r4, hq, hd⟩ := h1 rfl
  have H0 := hid hq
  have HD6 := hid (hd.keep (w' := w5.setCell ⟨B + 1, 1, none⟩ (.int .i64 x0)) fun k _ hk => keep_set (by have := HGL.out; omega))
  have HX6 : Hid (Blk (w5.setCell ⟨B + 1, 1, none⟩ (.int .i64 x0)) (B + 1) 90 #[.string (str nm), .int .i64 x0, .int .i64 0, .int .i64 0, .int .i64 0, .int .i64 0, .int .i64 0, .int .i64 0, .int .i64 0, .int .i64 0, .int .i64 0]) := hid (hX5.store 1 _)
  have HB6 : Hid (Blk (w5.setCell ⟨B + 1, 1, none⟩ (.int .i64 x0)) B 90 #[.string (str []), .int .i64 0, .int .i64 0, .int .i64 0, .int .i64 0, .int .i64 0, .int .i64 0, .int .i64 0, .int .i64 0, .int .i64 0, .int .i64 0]) := hid (hB5.keep (keep_set (by omega)))
  have HG6 : Hid (w.grownBy (w5.setCell ⟨B + 1, 1, none⟩ (.int .i64 x0)) (some g)) := hid (gr_set HG5.out (by have := HBE.out; omega))
  clear h0 h1 hq hd hX5 hB5 HG5 HX5 HB5
  go_wp2_with fail
  clear z0 y0
  generalize w5.setCell ⟨B + 1, 1, none⟩ (.int .i64 x0) = w6 at *
  rw [rounds_succ]
  have hcall := rdI_any w6 lo g r4 HD6.out
  go_wp2_with fail
  refine hcall.mono ?_
  rintro e w7 ⟨ok, x1, rfl, hg, h0, h1⟩
  have hX7 := HX6.out.keep (hg.block _ HX6.out.lt (by have := HGL.out; simp; omega))
  have hB7 := HB6.out.keep (hg.block _ HB6.out.lt (by have := HGL.out; simp; omega))
  have HG7 := hid (HG6.out.trans hg)
  have HX7 := hid hX7
  have HB7 := hid hB7
  clear hcall hg HX6 HB6 HG6 HD6 i1
  have z0 : w7.cell? ⟨B + 1, 2, none⟩ = some (.int .i64 0) := (hX7.cell 2).trans rfl
  have y0 : w7.frozen? ⟨B + 1, 2, none⟩ = false := hX7.frozen 2
  cases ok
  · have HN := hid (rdBl_no2 HT.out (by simp [rdIs, H0.out, h0 rfl]))
    clear h0 h1
    have hBq := hB7.keep (w' := w7.setCell ⟨B + 1, 2, none⟩ (.int .i64 x1)) (keep_set (by omega))
    have HGX : Hid (w.grownBy (w7.setCell ⟨B + 1, 2, none⟩ (.int .i64 x1)) (some g)) := hid (gr_set HG7.out (by have := HBE.out; omega))
    clear hB7 hX7 HG7 HX7 HB7
    go_wp2_with (refine wpList_storeB rfl _ _ rfl hBq rfl rfl bb0 rfl ?_)
    intro wz hBz hgz
    have HGZ : Hid (w.grownBy wz (some g)) := hid (HGX.out.andThen hgz fun j hj => .inl (by injection hj with hj; have := HBE.out; omega))
    go_wp2
    refine bodyPost_ret (res_B rfl hBz rfl rfl) rfl (REnt.none_ HGZ.out HN.out)
  obtain ⟨r5, hq, hd⟩ := h1 rfl
  have H1 := hid hq
  have HD8 := hid (hd.keep (w' := w7.setCell ⟨B + 1, 2, none⟩ (.int .i64 x1)) fun k _ hk => keep_set (by have := HGL.out; omega))
  have HX8 : Hid (Blk (w7.setCell ⟨B + 1, 2, none⟩ (.int .i64 x1)) (B + 1) 90 #[.string (str nm), .int .i64 x0, .int .i64 x1, .int .i64 0, .int .i64 0, .int .i64 0, .int .i64 0, .int .i64 0, .int .i64 0, .int .i64 0, .int .i64 0]) := hid (hX7.store 2 _)
  have HB8 : Hid (Blk (w7.setCell ⟨B + 1, 2, none⟩ (.int .i64 x1)) B 90 #[.string (str []), .int .i64 0, .int .i64 0, .int .i64 0, .int .i64 0, .int .i64 0, .int .i64 0, .int .i64 0, .int .i64 0, .int .i64 0, .int .i64 0]) := hid (hB7.keep (keep_set (by omega)))
  have HG8 : Hid (w.grownBy (w7.setCell ⟨B + 1, 2, none⟩ (.int .i64 x1)) (some g)) := hid (gr_set HG7.out (by have := HBE.out; omega))
  clear h0 h1 hq hd hX7 hB7 HG7 HX7 HB7
  go_wp2_with fail
  clear z0 y0
  generalize w7.setCell ⟨B + 1, 2, none⟩ (.int .i64 x1) = w8 at *
  rw [rounds_succ]
  have hcall := rdI_any w8 lo g r5 HD8.out
  go_wp2_with fail
  refine hcall.mono ?_
  rintro e w9 ⟨ok, x2, rfl, hg, h0, h1⟩
  have hX9 := HX8.out.keep (hg.block _ HX8.out.lt (by have := HGL.out; simp; omega))
  have hB9 := HB8.out.keep (hg.block _ HB8.out.lt (by have := HGL.out; simp; omega))
  have HG9 := hid (HG8.out.trans hg)
  have HX9 := hid hX9
  have HB9 := hid hB9
  clear hcall hg HX8 HB8 HG8 HD8 i2
  have z0 : w9.cell? ⟨B + 1, 3, none⟩ = some (.int .i64 0) := (hX9.cell 3).trans rfl
  have y0 : w9.frozen? ⟨B + 1, 3, none⟩ = false := hX9.frozen 3
  cases ok
  · have HN := hid (rdBl_no2 HT.out (by simp [rdIs, H0.out, H1.out, h0 rfl]))
    clear h0 h1
    have hBq := hB9.keep (w' := w9.setCell ⟨B + 1, 3, none⟩ (.int .i64 x2)) (keep_set (by omega))
    have HGX : Hid (w.grownBy (w9.setCell ⟨B + 1, 3, none⟩ (.int .i64 x2)) (some g)) := hid (gr_set HG9.out (by have := HBE.out; omega))
    clear hB9 hX9 HG9 HX9 HB9
    go_wp2_with (refine wpList_storeB rfl _ _ rfl hBq rfl rfl bb0 rfl ?_)
    intro wz hBz hgz
    have HGZ : Hid (w.grownBy wz (some g)) := hid (HGX.out.andThen hgz fun j hj => .inl (by injection hj with hj; have := HBE.out; omega))
    go_wp2
    refine bodyPost_ret (res_B rfl hBz rfl rfl) rfl (REnt.none_ HGZ.out HN.out)
  obtain ⟨r6, hq, hd⟩ := h1 rfl
  have H2 := hid hq
  have HD10 := hid (hd.keep (w' := w9.setCell ⟨B + 1, 3, none⟩ (.int .i64 x2)) fun k _ hk => keep_set (by have := HGL.out; omega))
  have HX10 : Hid (Blk (w9.setCell ⟨B + 1, 3, none⟩ (.int .i64 x2)) (B + 1) 90 #[.string (str nm), .int .i64 x0, .int .i64 x1, .int .i64 x2, .int .i64 0, .int .i64 0, .int .i64 0, .int .i64 0, .int .i64 0, .int .i64 0, .int .i64 0]) := hid (hX9.store 3 _)
  have HB10 : Hid (Blk (w9.setCell ⟨B + 1, 3, none⟩ (.int .i64 x2)) B 90 #[.string (str []), .int .i64 0, .int .i64 0, .int .i64 0, .int .i64 0, .int .i64 0, .int .i64 0, .int .i64 0, .int .i64 0, .int .i64 0, .int .i64 0]) := hid (hB9.keep (keep_set (by omega)))
  have HG10 : Hid (w.grownBy (w9.setCell ⟨B + 1, 3, none⟩ (.int .i64 x2)) (some g)) := hid (gr_set HG9.out (by have := HBE.out; omega))
  clear h0 h1 hq hd hX9 hB9 HG9 HX9 HB9
  go_wp2_with fail
  clear z0 y0
  generalize w9.setCell ⟨B + 1, 3, none⟩ (.int .i64 x2) = w10 at *
  rw [rounds_succ]
  have hcall := rdI_any w10 lo g r6 HD10.out
  go_wp2_with fail
  refine hcall.mono ?_
  rintro e w11 ⟨ok, x3, rfl, hg, h0, h1⟩
  have hX11 := HX10.out.keep (hg.block _ HX10.out.lt (by have := HGL.out; simp; omega))
  have hB11 := HB10.out.keep (hg.block _ HB10.out.lt (by have := HGL.out; simp; omega))
  have HG11 := hid (HG10.out.trans hg)
  have HX11 := hid hX11
  have HB11 := hid hB11
  clear hcall hg HX10 HB10 HG10 HD10 i3
  have z0 : w11.cell? ⟨B + 1, 4, none⟩ = some (.int .i64 0) := (hX11.cell 4).trans rfl
  have y0 : w11.frozen? ⟨B + 1, 4, none⟩ = false := hX11.frozen 4
  cases ok
  · have HN := hid (rdBl_no2 HT.out (by simp [rdIs, H0.out, H1.out, H2.out, h0 rfl]))
    clear h0 h1
    have hBq := hB11.keep (w' := w11.setCell ⟨B + 1, 4, none⟩ (.int .i64 x3)) (keep_set (by omega))
    have HGX : Hid (w.grownBy (w11.setCell ⟨B + 1, 4, none⟩ (.int .i64 x3)) (some g)) := hid (gr_set HG11.out (by have := HBE.out; omega))
    clear hB11 hX11 HG11 HX11 HB11
    go_wp2_with (refine wpList_storeB rfl _ _ rfl hBq rfl rfl bb0 rfl ?_)
    intro wz hBz hgz
    have HGZ : Hid (w.grownBy wz (some g)) := hid (HGX.out.andThen hgz fun j hj => .inl (by injection hj with hj; have := HBE.out; omega))
    go_wp2
    refine bodyPost_ret (res_B rfl hBz rfl rfl) rfl (REnt.none_ HGZ.out HN.out)
  obtain ⟨r7, hq, hd⟩ := h1 rfl
  have H3 := hid hq
  have HD12 := hid (hd.keep (w' := w11.setCell ⟨B + 1, 4, none⟩ (.int .i64 x3)) fun k _ hk => keep_set (by have := HGL.out; omega))
  have HX12 : Hid (Blk (w11.setCell ⟨B + 1, 4, none⟩ (.int .i64 x3)) (B + 1) 90 #[.string (str nm), .int .i64 x0, .int .i64 x1, .int .i64 x2, .int .i64 x3, .int .i64 0, .int .i64 0, .int .i64 0, .int .i64 0, .int .i64 0, .int .i64 0]) := hid (hX11.store 4 _)
  have HB12 : Hid (Blk (w11.setCell ⟨B + 1, 4, none⟩ (.int .i64 x3)) B 90 #[.string (str []), .int .i64 0, .int .i64 0, .int .i64 0, .int .i64 0, .int .i64 0, .int .i64 0, .int .i64 0, .int .i64 0, .int .i64 0, .int .i64 0]) := hid (hB11.keep (keep_set (by omega)))
  have HG12 : Hid (w.grownBy (w11.setCell ⟨B + 1, 4, none⟩ (.int .i64 x3)) (some g)) := hid (gr_set HG11.out (by have := HBE.out; omega))
  clear h0 h1 hq hd hX11 hB11 HG11 HX11 HB11
  go_wp2_with fail
  clear z0 y0
  generalize w11.setCell ⟨B + 1, 4, none⟩ (.int .i64 x3) = w12 at *
  rw [rounds_succ]
  have hcall := rdI_any w12 lo g r7 HD12.out
  go_wp2_with fail
  refine hcall.mono ?_
  rintro e w13 ⟨ok, x4, rfl, hg, h0, h1⟩
  have hX13 := HX12.out.keep (hg.block _ HX12.out.lt (by have := HGL.out; simp; omega))
  have hB13 := HB12.out.keep (hg.block _ HB12.out.lt (by have := HGL.out; simp; omega))
  have HG13 := hid (HG12.out.trans hg)
  have HX13 := hid hX13
  have HB13 := hid hB13
  clear hcall hg HX12 HB12 HG12 HD12 i4
  have z0 : w13.cell? ⟨B + 1, 8, none⟩ = some (.int .i64 0) := (hX13.cell 8).trans rfl
  have y0 : w13.frozen? ⟨B + 1, 8, none⟩ = false := hX13.frozen 8
  cases ok
  · have HN := hid (rdBl_no2 HT.out (by simp [rdIs, H0.out, H1.out, H2.out, H3.out, h0 rfl]))
    clear h0 h1
    have hBq := hB13.keep (w' := w13.setCell ⟨B + 1, 8, none⟩ (.int .i64 x4)) (keep_set (by omega))
    have HGX : Hid (w.grownBy (w13.setCell ⟨B + 1, 8, none⟩ (.int .i64 x4)) (some g)) := hid (gr_set HG13.out (by have := HBE.out; omega))
    clear hB13 hX13 HG13 HX13 HB13
    go_wp2_with (refine wpList_storeB rfl _ _ rfl hBq rfl rfl bb0 rfl ?_)
    intro wz hBz hgz
    have HGZ : Hid (w.grownBy wz (some g)) := hid (HGX.out.andThen hgz fun j hj => .inl (by injection hj with hj; have := HBE.out; omega))
    go_wp2
    refine bodyPost_ret (res_B rfl hBz rfl rfl) rfl (REnt.none_ HGZ.out HN.out)
  obtain ⟨r8, hq, hd⟩ := h1 rfl
  have H4 := hid hq
  have HD14 := hid (hd.keep (w' := w13.setCell ⟨B + 1, 8, none⟩ (.int .i64 x4)) fun k _ hk => keep_set (by have := HGL.out; omega))
  have HX14 : Hid (Blk (w13.setCell ⟨B + 1, 8, none⟩ (.int .i64 x4)) (B + 1) 90 #[.string (str nm), .int .i64 x0, .int .i64 x1, .int .i64 x2, .int .i64 x3, .int .i64 0, .int .i64 0, .int .i64 0, .int .i64 x4, .int .i64 0, .int .i64 0]) := hid (hX13.store 8 _)
  have HB14 : Hid (Blk (w13.setCell ⟨B + 1, 8, none⟩ (.int .i64 x4)) B 90 #[.string (str []), .int .i64 0, .int .i64 0, .int .i64 0, .int .i64 0, .int .i64 0, .int .i64 0, .int .i64 0, .int .i64 0, .int .i64 0, .int .i64 0]) := hid (hB13.keep (keep_set (by omega)))
  have HG14 : Hid (w.grownBy (w13.setCell ⟨B + 1, 8, none⟩ (.int .i64 x4)) (some g)) := hid (gr_set HG13.out (by have := HBE.out; omega))
  clear h0 h1 hq hd hX13 hB13 HG13 HX13 HB13
  go_wp2_with fail
  clear z0 y0
  generalize w13.setCell ⟨B + 1, 8, none⟩ (.int .i64 x4) = w14 at *
  rw [rounds_succ]
  have hcall := rdI_any w14 lo g r8 HD14.out
  go_wp2_with fail
  refine hcall.mono ?_
  rintro e w15 ⟨ok, x5, rfl, hg, h0, h1⟩
  have hX15 := HX14.out.keep (hg.block _ HX14.out.lt (by have := HGL.out; simp; omega))
  have hB15 := HB14.out.keep (hg.block _ HB14.out.lt (by have := HGL.out; simp; omega))
  have HG15 := hid (HG14.out.trans hg)
  have HX15 := hid hX15
  have HB15 := hid hB15
  clear hcall hg HX14 HB14 HG14 HD14 i5
  have z0 : w15.cell? ⟨B + 1, 9, none⟩ = some (.int .i64 0) := (hX15.cell 9).trans rfl
  have y0 : w15.frozen? ⟨B + 1, 9, none⟩ = false := hX15.frozen 9
  cases ok
  · have HN := hid (rdBl_no2 HT.out (by simp [rdIs, H0.out, H1.out, H2.out, H3.out, H4.out, h0 rfl]))
    clear h0 h1
    have hBq := hB15.keep (w' := w15.setCell ⟨B + 1, 9, none⟩ (.int .i64 x5)) (keep_set (by omega))
    have HGX : Hid (w.grownBy (w15.setCell ⟨B + 1, 9, none⟩ (.int .i64 x5)) (some g)) := hid (gr_set HG15.out (by have := HBE.out; omega))
    clear hB15 hX15 HG15 HX15 HB15
    go_wp2_with (refine wpList_storeB rfl _ _ rfl hBq rfl rfl bb0 rfl ?_)
    intro wz hBz hgz
    have HGZ : Hid (w.grownBy wz (some g)) := hid (HGX.out.andThen hgz fun j hj => .inl (by injection hj with hj; have := HBE.out; omega))
    go_wp2
    refine bodyPost_ret (res_B rfl hBz rfl rfl) rfl (REnt.none_ HGZ.out HN.out)
  obtain ⟨r9, hq, hd⟩ := h1 rfl
  have H5 := hid hq
  have HD16 := hid (hd.keep (w' := w15.setCell ⟨B + 1, 9, none⟩ (.int .i64 x5)) fun k _ hk => keep_set (by have := HGL.out; omega))
  have HX16 : Hid (Blk (w15.setCell ⟨B + 1, 9, none⟩ (.int .i64 x5)) (B + 1) 90 #[.string (str nm), .int .i64 x0, .int .i64 x1, .int .i64 x2, .int .i64 x3, .int .i64 0, .int .i64 0, .int .i64 0, .int .i64 x4, .int .i64 x5, .int .i64 0]) := hid (hX15.store 9 _)
  have HB16 : Hid (Blk (w15.setCell ⟨B + 1, 9, none⟩ (.int .i64 x5)) B 90 #[.string (str []), .int .i64 0, .int .i64 0, .int .i64 0, .int .i64 0, .int .i64 0, .int .i64 0, .int .i64 0, .int .i64 0, .int .i64 0, .int .i64 0]) := hid (hB15.keep (keep_set (by omega)))
  have HG16 : Hid (w.grownBy (w15.setCell ⟨B + 1, 9, none⟩ (.int .i64 x5)) (some g)) := hid (gr_set HG15.out (by have := HBE.out; omega))
  clear h0 h1 hq hd hX15 hB15 HG15 HX15 HB15
  go_wp2_with fail
  clear z0 y0
  generalize w15.setCell ⟨B + 1, 9, none⟩ (.int .i64 x5) = w16 at *
  rw [rounds_succ]
  have hcall := rdI_any w16 lo g r9 HD16.out
  go_wp2_with fail
  refine hcall.mono ?_
  rintro e w17 ⟨ok, x6, rfl, hg, h0, h1⟩
  have hX17 := HX16.out.keep (hg.block _ HX16.out.lt (by have := HGL.out; simp; omega))
  have hB17 := HB16.out.keep (hg.block _ HB16.out.lt (by have := HGL.out; simp; omega))
  have HG17 := hid (HG16.out.trans hg)
  have HX17 := hid hX17
  have HB17 := hid hB17
  clear hcall hg HX16 HB16 HG16 HD16 i6
  have z0 : w17.cell? ⟨B + 1, 10, none⟩ = some (.int .i64 0) := (hX17.cell 10).trans rfl
  have y0 : w17.frozen? ⟨B + 1, 10, none⟩ = false := hX17.frozen 10
  cases ok
  · have HN := hid (rdBl_no2 HT.out (by simp [rdIs, H0.out, H1.out, H2.out, H3.out, H4.out, H5.out, h0 rfl]))
    clear h0 h1
    have hBq := hB17.keep (w' := w17.setCell ⟨B + 1, 10, none⟩ (.int .i64 x6)) (keep_set (by omega))
    have HGX : Hid (w.grownBy (w17.setCell ⟨B + 1, 10, none⟩ (.int .i64 x6)) (some g)) := hid (gr_set HG17.out (by have := HBE.out; omega))
    clear hB17 hX17 HG17 HX17 HB17
    go_wp2_with (refine wpList_storeB rfl _ _ rfl hBq rfl rfl bb0 rfl ?_)
    intro wz hBz hgz
    have HGZ : Hid (w.grownBy wz (some g)) := hid (HGX.out.andThen hgz fun j hj => .inl (by injection hj with hj; have := HBE.out; omega))
    go_wp2
    refine bodyPost_ret (res_B rfl hBz rfl rfl) rfl (REnt.none_ HGZ.out HN.out)
  obtain ⟨r10, hq, hd⟩ := h1 rfl
  have H6 := hid hq
  have HD18 := hid (hd.keep (w' := w17.setCell ⟨B + 1, 10, none⟩ (.int .i64 x6)) fun k _ hk => keep_set (by have := HGL.out; omega))
  have HX18 : Hid (Blk (w17.setCell ⟨B + 1, 10, none⟩ (.int .i64 x6)) (B + 1) 90 #[.string (str nm), .int .i64 x0, .int .i64 x1, .int .i64 x2, .int .i64 x3, .int .i64 0, .int .i64 0, .int .i64 0, .int .i64 x4, .int .i64 x5, .int .i64 x6]) := hid (hX17.store 10 _)
  have HB18 : Hid (Blk (w17.setCell ⟨B + 1, 10, none⟩ (.int .i64 x6)) B 90 #[.string (str []), .int .i64 0, .int .i64 0, .int .i64 0, .int .i64 0, .int .i64 0, .int .i64 0, .int .i64 0, .int .i64 0, .int .i64 0, .int .i64 0]) := hid (hB17.keep (keep_set (by omega)))
  have HG18 : Hid (w.grownBy (w17.setCell ⟨B + 1, 10, none⟩ (.int .i64 x6)) (some g)) := hid (gr_set HG17.out (by have := HBE.out; omega))
  clear h0 h1 hq hd hX17 hB17 HG17 HX17 HB17
  go_wp2_with fail
  clear z0 y0
  generalize w17.setCell ⟨B + 1, 10, none⟩ (.int .i64 x6) = w18 at *
  rw [rounds_succ]
  have hX18 := HX18.out
  obtain ⟨c0, c1, c2, c3, c4, c5, c6, c7, c8, c9, c10⟩ : w18.cell? ⟨B + 1, 0, none⟩ = some (.string (str nm)) ∧ w18.cell? ⟨B + 1, 1, none⟩ = some (.int .i64 x0) ∧ w18.cell? ⟨B + 1, 2, none⟩ = some (.int .i64 x1) ∧ w18.cell? ⟨B + 1, 3, none⟩ = some (.int .i64 x2) ∧ w18.cell? ⟨B + 1, 4, none⟩ = some (.int .i64 x3) ∧ w18.cell? ⟨B + 1, 5, none⟩ = some (.int .i64 0) ∧ w18.cell? ⟨B + 1, 6, none⟩ = some (.int .i64 0) ∧ w18.cell? ⟨B + 1, 7, none⟩ = some (.int .i64 0) ∧ w18.cell? ⟨B + 1, 8, none⟩ = some (.int .i64 x4) ∧ w18.cell? ⟨B + 1, 9, none⟩ = some (.int .i64 x5) ∧ w18.cell? ⟨B + 1, 10, none⟩ = some (.int .i64 x6) := ⟨(hX18.cell 0).trans rfl, (hX18.cell 1).trans rfl, (hX18.cell 2).trans rfl, (hX18.cell 3).trans rfl, (hX18.cell 4).trans rfl, (hX18.cell 5).trans rfl, (hX18.cell 6).trans rfl, (hX18.cell 7).trans rfl, (hX18.cell 8).trans rfl, (hX18.cell 9).trans rfl, (hX18.cell 10).trans rfl⟩
  have y5 : w18.frozen? ⟨B + 1, 5, none⟩ = false := hX18.frozen 5
  have y6 : w18.frozen? ⟨B + 1, 6, none⟩ = false := hX18.frozen 6
  have y7 : w18.frozen? ⟨B + 1, 7, none⟩ = false := hX18.frozen 7
  have HY : Hid (rdBl l = some ((⟨nm, ⟨x0, x1, x2⟩, x3, ⟨⟨x0, x1, x2⟩, x4, x5⟩, x6⟩ : Bb), r10)) := hid (rdBl_yes HT.out (by simp [rdIs, H0.out, H1.out, H2.out, H3.out, H4.out, H5.out, H6.out]))
  have HD19 := hid (HD18.out.keep (w' := ((w18.setCell ⟨B + 1, 5, none⟩ (.int .i64 x0)).setCell ⟨B + 1, 6, none⟩ (.int .i64 x1)).setCell ⟨B + 1, 7, none⟩ (.int .i64 x2)) fun k _ hk => (keep_set (by have := HGL.out; omega)).trans ((keep_set (by have := HGL.out; omega)).trans (keep_set (by have := HGL.out; omega))))
  have HX19 : Hid (Blk (((w18.setCell ⟨B + 1, 5, none⟩ (.int .i64 x0)).setCell ⟨B + 1, 6, none⟩ (.int .i64 x1)).setCell ⟨B + 1, 7, none⟩ (.int .i64 x2)) (B + 1) 90 #[.string (str nm), .int .i64 x0, .int .i64 x1, .int .i64 x2, .int .i64 x3, .int .i64 x0, .int .i64 x1, .int .i64 x2, .int .i64 x4, .int .i64 x5, .int .i64 x6]) := hid (((hX18.store 5 _).store 6 _).store 7 _)
  have HB19 : Hid (Blk (((w18.setCell ⟨B + 1, 5, none⟩ (.int .i64 x0)).setCell ⟨B + 1, 6, none⟩ (.int .i64 x1)).setCell ⟨B + 1, 7, none⟩ (.int .i64 x2)) B 90 #[.string (str []), .int .i64 0, .int .i64 0, .int .i64 0, .int .i64 0, .int .i64 0, .int .i64 0, .int .i64 0, .int .i64 0, .int .i64 0, .int .i64 0]) := hid (HB18.out.keep ((keep_set (by omega)).trans ((keep_set (by omega)).trans (keep_set (by omega)))))
  have HG19 : Hid (w.grownBy (((w18.setCell ⟨B + 1, 5, none⟩ (.int .i64 x0)).setCell ⟨B + 1, 6, none⟩ (.int .i64 x1)).setCell ⟨B + 1, 7, none⟩ (.int .i64 x2)) (some g)) := hid (gr_set (gr_set (gr_set HG18.out (by have := HBE.out; omega)) (by have := HBE.out; omega)) (by have := HBE.out; omega))
  clear hX18 HX18 HB18 HG18 HD18
  go_wp2_with fail
  clear c0 c1 c2 c3 c4 c5 c6 c7 c8 c9 c10 y5 y6 y7
  generalize ((w18.setCell ⟨B + 1, 5, none⟩ (.int .i64 x0)).setCell ⟨B + 1, 6, none⟩ (.int .i64 x1)).setCell ⟨B + 1, 7, none⟩ (.int .i64 x2) = w19 at *
  obtain ⟨y, hy⟩ : ∃ y : Bb, y = (⟨nm, ⟨x0, x1, x2⟩, x3, ⟨⟨x0, x1, x2⟩, x4, x5⟩, x6⟩ : Bb) := ⟨_, rfl⟩
  have HXY : Hid (Blk w19 (B + 1) 90 #[.string (str (y).nm), .int .i64 (y).k.t, .int .i64 (y).k.c, .int .i64 (y).k.e, .int .i64 (y).b, .int .i64 (y).p.k.t, .int .i64 (y).p.k.c, .int .i64 (y).p.k.e, .int .i64 (y).p.id, .int .i64 (y).p.ver, .int .i64 (y).sz]) := hid (by rw [hy]; exact HX19.out)
  have HYK : Hid (y.p.k = y.k) := hid (by rw [hy])
  rw [← hy] at HY
  clear hy HX19
  have HBX : Hid (B < w19.heap.size) := hid HB19.out.lt
  go_wp2_with fail
  have HXD : Hid (Blk w19.drew (B + 1) 90 #[.string (str (y).nm), .int .i64 (y).k.t, .int .i64 (y).k.c, .int .i64 (y).k.e, .int .i64 (y).b, .int .i64 (y).p.k.t, .int .i64 (y).p.k.c, .int .i64 (y).p.k.e, .int .i64 (y).p.id, .int .i64 (y).p.ver, .int .i64 (y).sz]) := hid HXY.out
  have HBD : Hid (Blk w19.drew B 90 #[.string (str []), .int .i64 0, .int .i64 0, .int .i64 0, .int .i64 0, .int .i64 0, .int .i64 0, .int .i64 0, .int .i64 0, .int .i64 0, .int .i64 0]) := hid HB19.out
  have HGD : Hid (w.grownBy w19.drew (some g)) := hid (HG19.out.andThen (⟨rfl, rfl, rfl, Nat.le_refl _, fun _ _ _ => rfl⟩ : w19.grownBy w19.drew none) (fun j hj => by cases hj))
  have HDD := hid (HD19.out.keep (w' := w19.drew) fun _ _ _ => rfl)
  clear HXY HB19 HG19 HD19
  refine wp_region_held_drew (S := fun wx => Blk wx (B + 1) 90 #[.string (str (y).nm), .int .i64 (y).k.t, .int .i64 (y).k.c, .int .i64 (y).k.e, .int .i64 (y).b, .int .i64 (y).p.k.t, .int .i64 (y).p.k.c, .int .i64 (y).p.k.e, .int .i64 (y).p.id, .int .i64 (y).p.ver, .int .i64 (y).sz]) (by kernel_rfl) HXD.out (fun HS => ?_)
  generalize w19.drew = w20 at *
  refine wpAnyH_take (i := 0) (oi := ?oi0) (v := ?v0) ?hi0 (by kernel_rfl) (by kernel_rfl) (by kernel_rfl) ?hQ0 ?hy0 HS ?rest0
  case hi0 => simp only [List.getElem?_toArray, List.getElem?_cons_zero]; exact rfl
  case hQ0 => exact fun _ _ _ h => h
  case hy0 =>
    refine Or.inl ⟨by rfl, ?_⟩
    intro wS hSw
    refine Eq.trans (exec_loadB (.tmp 4) ?_ ?_ hSw) ?_
    all_goals rfl
  try simp only [Act.put, List.setIfInBounds_toArray, List.set_cons_zero, List.set_cons_succ]
  refine wpAnyH_take (i := 1) (oi := ?oi1) (v := ?v1) ?hi1 (by kernel_rfl) (by kernel_rfl) (by kernel_rfl) ?hQ1 ?hy1 HS ?rest1
  case hi1 => simp only [List.getElem?_toArray, List.getElem?_cons_succ, List.getElem?_cons_zero]; exact rfl
  case hQ1 => exact fun _ _ _ h => h
  case hy1 =>
    refine Or.inl ⟨by rfl, ?_⟩
    intro wS hSw
    refine Eq.trans (exec_loadB (.tmp 4) ?_ ?_ hSw) ?_
    all_goals rfl
  try simp only [Act.put, List.setIfInBounds_toArray, List.set_cons_zero, List.set_cons_succ]
  refine wpAnyH_ready (rs := [2]) (by kernel_rfl) (by simp) ?_
  refine AllReadyH.cons (o := ?ob2) ?hob2 (fun K hK => ?stepb2) AllReadyH.nil
  case hob2 => simp only [List.getElem?_toArray, List.getElem?_cons_succ, List.getElem?_cons_zero]; exact rfl
  go_simp
  refine (rightBlob_c y w20).mono ?_
  rintro e wa ⟨rfl, hba⟩
  have HXa := hid (HXD.out.keep (hba.block _ HXD.out.lt))
  have HBa := hid (HBD.out.keep (hba.block _ HBD.out.lt))
  have HGa : Hid (w.grownBy wa (some g)) := hid (HGD.out.andThen (grown_below_row hba) (fun j hj => by cases hj))
  have HDa := hid (HDD.out.keep (w' := wa) fun k _ hk => hba.block k (by have := HXD.out.lt; have := HGL.out; omega))
  clear hba
  refine hK.out _ _ HXa.out (fun HS => ?_)
  clear hK K
  try simp only [Act.put, List.setIfInBounds_toArray, List.set_cons_zero, List.set_cons_succ]
  refine wpAnyH_ready (rs := [3]) (by kernel_rfl) (by simp) ?_
  refine AllReadyH.cons (o := ?oc3) ?hoc3 (fun K hK => ?stepc3) AllReadyH.nil
  case hoc3 => simp only [List.getElem?_toArray, List.getElem?_cons_succ, List.getElem?_cons_zero]; exact rfl
  refine wp_storeB _ _ rfl HBa.out rfl rfl y rfl ?_
  intro wz hBz hgz
  have HBZ := hid hBz
  have HXZ := hid (HXa.out.keep (hgz.block _ HXa.out.lt (by simp)))
  have HGZ : Hid (w.grownBy wz (some g)) := hid (HGa.out.andThen hgz fun j hj => .inl (by injection hj with hj; have := HBE.out; omega))
  have HDZ := hid (HDa.out.keep (w' := wz) fun k _ hk => hgz.block k (by have := HXa.out.lt; have := HGL.out; omega) (by have := HGL.out; simp; omega))
  clear hBz hgz
  refine hK.out _ _ HXZ.out (fun HS => ?_)
  clear hK K
  try simp only [Act.put]
  refine wpAnyH_take (i := 4) (oi := ?oic4) (v := ?vc4) ?hic4 (by kernel_rfl) (by kernel_rfl) (by kernel_rfl) ?hQc4 ?hyc4 HS ?restc4
  case hic4 => simp only [List.getElem?_toArray, List.getElem?_cons_succ, List.getElem?_cons_zero]; exact rfl
  case hQc4 => exact fun _ _ _ h => h
  case hyc4 =>
    refine Or.inl ⟨by rfl, ?_⟩
    intro wS hSw
    go_simp
    try with_reducible rfl
  try simp only [Act.put, List.setIfInBounds_toArray, List.set_cons_zero, List.set_cons_succ]
  refine wpAnyH_done (by kernel_rfl) ?_ _
  clear HS
  go_wp2
  refine bodyPost_ret (res_B rfl HBZ.out rfl rfl) rfl ?_
  refine ⟨decide (bbR y), y, rfl, HGZ.out, fun h y' r' e => ?_, fun h => ⟨r10, HY.out, (bbR_ok HYK.out).2 (of_decide_eq_true h), HDZ.out⟩⟩
  rw [HY.out] at e
  injection e with e
  injection e with e1 _
  rw [← e1, bbR_ok HYK.out]
  exact of_decide_eq_false h
end Go.Proofs.YtdkbpjkoiegflaaGreat
