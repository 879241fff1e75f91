/- What root's block, page, Version, Put and Get answer and leave. -/
import Derived.Test.YtocmgdhgimpfhaaRtOn
namespace Go.Proofs.Ytocmgdhgimpfhaa
open Go.RowKit

theorem ce_cells {T : TypeId} {wr : World} {g : Nat} {c : Ce} (h : Blk wr g T #[.int .i64 (c.ver : Int), .int .i64 (c.mark : Int)]) : wr.cell? ⟨g, 0, none⟩ = some (.int .i64 (c.ver : Int)) ∧ wr.cell? ⟨g, 1, none⟩ = some (.int .i64 (c.mark : Int)) := ⟨(h.cell 0).trans rfl, (h.cell 1).trans rfl⟩
theorem mod2 (n : Nat) : wrap64 ((n : Int).tmod 2) = ((n % 2 : Nat) : Int) ∧ (n : Int).tmod 2 = ((n % 2 : Nat) : Int) ∧ wrap64 ((n % 2 : Nat) : Int) = ((n % 2 : Nat) : Int) := by
  have h : (n : Int).tmod 2 = ((n % 2 : Nat) : Int) := by rw [Int.tmod_eq_emod_of_nonneg (by omega)]; omega
  have h2 : wrap64 ((n % 2 : Nat) : Int) = ((n % 2 : Nat) : Int) := by unfold wrap64; omega
  exact ⟨by rw [h, h2], h, h2⟩
theorem up1 {n : Nat} (h : n ≤ 1000000000) : wrap64 ((n : Int) + 1) = ((n + 1 : Nat) : Int) := by unfold wrap64; omega

set_option maxRecDepth 100000 in
theorem cver_c {C : Ob → Ob} {w wr : World} {gc : Nat} {c : Ce} {X : Nat → Prop} (hC : Foc C) (h : On w (C (CeO gc c)) wr X) :
    Calls Try.prog 27 #[.pointer (some ⟨gc, 0, none⟩)] wr fun e w' => e = .returned (.int .i64 (c.ver : Int)) ∧ wr = w' := by
  obtain ⟨hb, -, -⟩ := ce_at hC h
  obtain ⟨c0, c1⟩ := ce_cells hb
  clear h hb
  go_enter Try.func27, Try.ntmps27
  go_wp2
  go_ret
  exact ⟨rfl, rfl⟩
set_option maxRecDepth 100000 in
theorem cver_nil (wr : World) : Calls Try.prog 27 #[.pointer none] wr fun e w' => e = .returned (.int .i64 0) ∧ wr = w' := by
  go_enter Try.func27, Try.ntmps27
  go_wp2
  go_ret
  exact ⟨rfl, rfl⟩
set_option maxRecDepth 100000 in
theorem cblock_c (c : Ce) (w : World) : Calls Try.prog 32 #[.agg #[.int .i64 (c.ver : Int), .int .i64 (c.mark : Int)]] w fun e w' => e = .returned (.int .i64 (rtI c)) ∧ Below w.heap.size w w' := by
  obtain ⟨m1, m2, m3⟩ := mod2 c.ver
  have HB : Hid (Below w.heap.size w (w.alloc (.cells #[.int .i64 (c.ver : Int), .int .i64 (c.mark : Int)] 33))) := hid ((Below.refl _ _).alloc (Nat.le_refl _) _)
  obtain ⟨c0, c1⟩ := ce_cells (Blk.new w 33 #[.int .i64 (c.ver : Int), .int .i64 (c.mark : Int)])
  have HE : Hid (rtI c = ((c.ver % 2 : Nat) : Int)) := hid rfl
  generalize c.ver % 2 = r at *
  go_enter Try.func32, Try.ntmps32
  go_wp2
  go_ret
  exact ⟨by rw [HE.out]; rfl, HB.out⟩
set_option maxRecDepth 100000 in
theorem cpage_c (c : Ce) (w : World) : Calls Try.prog 33 #[.agg #[.int .i64 (c.ver : Int), .int .i64 (c.mark : Int)]] w fun e w' => e = .returned (.agg #[.int .i64 (rtP c).k.t, .int .i64 (rtP c).k.c, .int .i64 (rtP c).k.e, .int .i64 (rtP c).id, .int .i64 (rtP c).ver]) ∧ Below w.heap.size w w' := by
  have hb1 : Below w.heap.size w (w.alloc (.cells #[.int .i64 (c.ver : Int), .int .i64 (c.mark : Int)] 33)) := (Below.refl _ _).alloc (Nat.le_refl _) _
  have hs1 : (w.alloc (.cells #[.int .i64 (c.ver : Int), .int .i64 (c.mark : Int)] 33)).heap.size = w.heap.size + 1 := by simp
  have hk := Blk.new w 33 #[.int .i64 (c.ver : Int), .int .i64 (c.mark : Int)]
  have HB1 := hid hb1
  have HS1 := hid hs1
  have HK := hid hk
  clear hb1 hs1 hk
  go_enter Try.func33, Try.ntmps33
  have hk2 : PgB ((w.alloc (.cells #[.int .i64 (c.ver : Int), .int .i64 (c.mark : Int)] 33)).alloc (.cells #[.int .i64 0, .int .i64 0, .int .i64 0, .int .i64 (c.mark : Int), .int .i64 (c.ver : Int)] 89)) (w.heap.size + 1) (rtP c) := by
    have := Blk.new (w.alloc (.cells #[.int .i64 (c.ver : Int), .int .i64 (c.mark : Int)] 33)) 89 #[.int .i64 0, .int .i64 0, .int .i64 0, .int .i64 (c.mark : Int), .int .i64 (c.ver : Int)]
    rw [HS1.out] at this
    exact this
  obtain ⟨p0, p1, p2, p3, p4⟩ := pgB_cells hk2
  have HB2 := hid (HB1.out.alloc (by rw [HS1.out]; omega) (.cells #[.int .i64 0, .int .i64 0, .int .i64 0, .int .i64 (c.mark : Int), .int .i64 (c.ver : Int)] 89))
  clear hk2
  go_wp2_with fail
  refine bodyPost_ret (v := .agg #[.int .i64 (rtP c).k.t, .int .i64 (rtP c).k.c, .int .i64 (rtP c).k.e, .int .i64 (rtP c).id, .int .i64 (rtP c).ver]) (by simp [results, Try.results33, go_sem, p0, p1, p2, p3, p4]) rfl ⟨rfl, HB2.out⟩
end Go.Proofs.Ytocmgdhgimpfhaa
