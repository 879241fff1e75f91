/- What value.rightOrNull and the document's own Right and right return. -/
import Derived.Test.YtfjpnkchldjjmaaGreatDoorVlW1
import Derived.Test.YtfjpnkchldjjmaaGreatDoorVlMath2
import Derived.Test.YtfjpnkchldjjmaaGreatDoorFlR0
namespace Go.Proofs.YtfjpnkchldjjmaaGreatDoor
open Go.RowKit

theorem nz_beq (f : Nat) : (f == 0) = !((f : Int) != 0) := by
  rcases f with _ | f
  · rfl
  · have h : (((f + 1 : Nat) : Int) != 0) = true := by simp; omega
    rw [h]; rfl
theorem sz1 (w : World) (o : Obj) : (w.alloc o).heap.size = w.heap.size + 1 := by simp
theorem Blk.v4 {w : World} {g : Nat} {t : TypeId} {a b c d : Value} (h : Blk w g t #[a, b, c, d]) : w.cell? ⟨g, 0, none⟩ = some a ∧ w.cell? ⟨g, 1, none⟩ = some b ∧ w.cell? ⟨g, 2, none⟩ = some c ∧ w.cell? ⟨g, 3, none⟩ = some d ∧ ∀ i, w.frozen? ⟨g, i, none⟩ = false :=
  ⟨by simpa using h.cell 0, by simpa using h.cell 1, by simpa using h.cell 2, by simpa using h.cell 3, h.frozen⟩
theorem Blk.bel {w w' : World} {g B : Nat} {t : TypeId} {cs : Array Value} (h : Blk w g t cs) (hb : Below B w w') (hB : g < B) : Blk w' g t cs := h.keep (hb.block g hB)
theorem Blk.old {w : World} {g : Nat} {t : TypeId} {cs : Array Value} (h : Blk w g t cs) (o : Obj) : Blk (w.alloc o) g t cs := h.bel (bel1 w o) h.lt
theorem bel2 (w : World) (o p : Obj) : Below w.heap.size w ((w.alloc o).alloc p) := (bel1 w o).alloc (by simp) p
theorem bel4 {B : Nat} {a w : World} {g : Nat} (h : Below B a w) (hg : B ≤ g) (c0 c1 c2 c3 : Value) : Below B a ((((w.setCell ⟨g, 0, none⟩ c0).setCell ⟨g, 1, none⟩ c1).setCell ⟨g, 2, none⟩ c2).setCell ⟨g, 3, none⟩ c3) :=
  (((h.setCell (p := ⟨g, 0, none⟩) hg c0).setCell (p := ⟨g, 1, none⟩) hg c1).setCell (p := ⟨g, 2, none⟩) hg c2).setCell (p := ⟨g, 3, none⟩) hg c3
theorem right_c (v : Vl) (hf : vf v < 18446744073709551616) (w : World) :
    Calls Tryz.prog 32 #[(.agg #[.int .i64 (vk v), .int .i64 (vn v), .string (str (vs v)), .int .u64 ((vf v : Nat) : Int)])] w fun e w' => e = .returned (.bool (vRight v)) ∧ Below w.heap.size w w' := by
  obtain ⟨k, n, s, f⟩ := v
  by_cases hk : k = 4
  · subst hk; exact right_c4 n s f hf w
  · exact right_c0 k n s f w hk
set_option maxHeartbeats 1000000 in
theorem rightOrNull_c (v : Vl) (hf : vf v < 18446744073709551616) (w : World) :
    Calls Tryz.prog 20 #[(.agg #[.int .i64 (vk v), .int .i64 (vn v), .string (str (vs v)), .int .u64 ((vf v : Nat) : Int)])] w fun e w' => e = .returned (.agg #[.int .i64 (vk (vRt v)), .int .i64 (vn (vRt v)), .string (str (vs (vRt v))), .int .u64 ((vf (vRt v) : Nat) : Int)]) ∧ Below w.heap.size w w' := by
  have HR := hid (fun wx => right_c v hf wx)
  have HY : Hid (vRight v = true → vRt v = v) := hid vRt_of
  have HN : Hid (vRight v = false → vRt v = vNull) := hid vRt_no
  generalize vRight v = b at *
  obtain ⟨r, hr⟩ : ∃ r, r = vRt v := ⟨_, rfl⟩
  rw [← hr]
  have HE := hid hr
  clear hr hf
  go_enter Tryz.func20, Tryz.ntmps20
  go_wp2_with fail
  refine (HR.out _).mono ?_
  rintro e w2 ⟨rfl, hb2⟩
  obtain ⟨p0, p1, p2, p3, -⟩ := (((Blk.new w 26 _).old _).bel hb2 (by simp; omega)).v4
  obtain ⟨q0, q1, q2, q3, qf⟩ := ((Blk.new (w.alloc _) 26 _).bel hb2 (by simp)).v4
  have hb3 := (bel2 w _ _).trans (hb2.mono (by simp; omega))
  simp only [sz1] at q0 q1 q2 q3 qf
  clear hb2
  cases b
  · have hr : r = vNull := HE.out.trans (HN.out rfl)
    subst hr
    clear HE HN HY HR
    go_wp2
    refine bodyPost_ret (v := (.agg #[.int .i64 (0), .int .i64 (0), .string (str ([])), .int .u64 ((0 : Nat) : Int)])) (by simp [results, Tryz.results20, go_sem, q0, q1, q2, q3, str]) rfl ⟨rfl, bel4 hb3 (by omega) _ _ _ _⟩
  · have hr : r = v := HE.out.trans (HY.out rfl)
    subst hr
    clear HE HN HY HR
    go_wp2
    refine bodyPost_ret (v := (.agg #[.int .i64 (vk r), .int .i64 (vn r), .string (str (vs r)), .int .u64 ((vf r : Nat) : Int)])) (by simp [results, Tryz.results20, go_sem, q0, q1, q2, q3]) rfl ⟨rfl, bel4 hb3 (by omega) _ _ _ _⟩

theorem rRight_c0 (k n : Int) (s : List UInt8) (f : Nat) (w : World) (hk : k ≠ 4) :
    Calls Tryz.prog 11 #[(.agg #[.int .i64 (k), .int .i64 (n), .string (str (s)), .int .u64 ((f : Nat) : Int)])] w fun e w' => e = .returned (.bool (vRight (k, n, s, f))) ∧ Below w.heap.size w w' := by
  have hs := str_list s
  have hz := str_size s
  by_cases k0 : k = 0
  · subst k0
    go_enter Tryz.func11, Tryz.ntmps11
    go_wp2_with fail
    go_quiet (fail)
    go_wp2
    all_goals go_ret
    all_goals refine ⟨retb ?_, bdN _ (bel1 _ _)⟩
    all_goals rw [vR0]
    all_goals simp_all
    all_goals exact nz_beq f
  by_cases k1 : k = 1
  · subst k1
    go_enter Tryz.func11, Tryz.ntmps11
    go_wp2_with fail
    go_quiet (fail)
    go_wp2
    all_goals go_ret
    all_goals refine ⟨retb ?_, bdN _ (bel1 _ _)⟩
    all_goals rw [vR1]
    all_goals simp_all
    all_goals exact nz_beq f
  by_cases k2 : k = 2
  · subst k2
    go_enter Tryz.func11, Tryz.ntmps11
    go_wp2_with fail
    go_quiet (fail)
    go_wp2
    all_goals go_ret
    all_goals refine ⟨retb ?_, bdN _ (bel1 _ _)⟩
    all_goals rw [vR2]
    all_goals simp_all
  by_cases k3 : k = 3
  · subst k3
    go_enter Tryz.func11, Tryz.ntmps11
    go_wp2_with fail
    go_quiet (fail)
    go_wp2
    all_goals go_ret
    all_goals refine ⟨retb ?_, bdN _ (bel1 _ _)⟩
    all_goals rw [vR3]
    all_goals simp_all
    all_goals omega
  have d0 : (k == 0) = false := by simpa using k0
  have d1 : (k == 1) = false := by simpa using k1
  have d2 : (k == 2) = false := by simpa using k2
  have d3 : (k == 3) = false := by simpa using k3
  have d4 : (k == 4) = false := by simpa using hk
  go_enter Tryz.func11, Tryz.ntmps11
  go_wp2_with fail
  go_quiet (fail)
  go_wp2
  all_goals go_ret
  all_goals exact ⟨retb (vRx k n s f k0 k1 k2 k3 hk), bdN _ (bel1 _ _)⟩
theorem rRight_c4 (n : Int) (s : List UInt8) (f : Nat) (hf : f < 18446744073709551616) (w : World) :
    Calls Tryz.prog 11 #[(.agg #[.int .i64 (4), .int .i64 (n), .string (str (s)), .int .u64 ((f : Nat) : Int)])] w fun e w' => e = .returned (.bool (vRight (4, n, s, f))) ∧ Below w.heap.size w w' := by
  have hs := str_list s
  obtain ⟨g, hg⟩ : ∃ g, g = fCanon f := ⟨_, rfl⟩
  have hc : ∀ wx, Calls Tryz.prog 34 #[.int .u64 (f : Int)] wx fun e w' => e = .returned (.int .u64 (g : Int)) ∧ w' = wx := fun wx => (rCanon_c f hf wx).mono fun _ _ h => ⟨by rw [hg]; exact h.1, h.2.symm⟩
  have HC := hid hc
  have HG := hid hg
  clear hc hg
  by_cases hn : n = 0
  · subst hn
    by_cases h2 : s = []
    · subst h2
      cases h3 : decide (g = f)
      · have HR : Hid (vRight (4, 0, [], f) = false) := hid (by rw [vR4, ← HG.out]; simpa using h3)
        have d3 : ((g : Int) == (f : Int)) = false := by simp at h3 ⊢; omega
        clear h3
        go_enter Tryz.func11, Tryz.ntmps11
        go_wp2_with fail
        go_quiet (fail)
        go_wp2_with fail
        obtain ⟨p0, p1, p2, p3, -⟩ := (Blk.new w 26 #[.int .i64 4, .int .i64 0, .string (str []), .int .u64 (f : Int)]).v4
        have hbw := bdN nq (bel1 w (.cells #[.int .i64 4, .int .i64 0, .string (str []), .int .u64 (f : Int)] 26))
        change ((w.alloc (.cells #[.int .i64 4, .int .i64 0, .string (str []), .int .u64 (f : Int)] 26)).drewN nq).cell? _ = _ at p0 p1 p2 p3
        generalize (w.alloc (.cells #[.int .i64 4, .int .i64 0, .string (str []), .int .u64 (f : Int)] 26)).drewN nq = W at *
        go_quiet (first | (go_at_call 34; refine Calls.quiet_of_same (HC.out _)))
        go_wp2
        go_ret
        exact ⟨retb HR.out, bdN _ hbw⟩
      · have HR : Hid (vRight (4, 0, [], f) = true) := hid (by rw [vR4, ← HG.out]; simpa using h3)
        have d3 : ((g : Int) == (f : Int)) = true := by simp at h3 ⊢; omega
        clear h3
        go_enter Tryz.func11, Tryz.ntmps11
        go_wp2_with fail
        go_quiet (fail)
        go_wp2_with fail
        obtain ⟨p0, p1, p2, p3, -⟩ := (Blk.new w 26 #[.int .i64 4, .int .i64 0, .string (str []), .int .u64 (f : Int)]).v4
        have hbw := bdN nq (bel1 w (.cells #[.int .i64 4, .int .i64 0, .string (str []), .int .u64 (f : Int)] 26))
        change ((w.alloc (.cells #[.int .i64 4, .int .i64 0, .string (str []), .int .u64 (f : Int)] 26)).drewN nq).cell? _ = _ at p0 p1 p2 p3
        generalize (w.alloc (.cells #[.int .i64 4, .int .i64 0, .string (str []), .int .u64 (f : Int)] 26)).drewN nq = W at *
        go_quiet (first | (go_at_call 34; refine Calls.quiet_of_same (HC.out _)))
        go_wp2
        go_ret
        exact ⟨retb HR.out, bdN _ hbw⟩
    · have HR : Hid (vRight (4, 0, s, f) = false) := hid (by rw [vR4]; simp [h2])
      have d3 : ((str s).toList == []) = false := by rw [hs]; simpa using h2
      have d4 : s.isEmpty = false := by simpa using h2
      clear h2
      go_enter Tryz.func11, Tryz.ntmps11
      go_wp2_with fail
      go_quiet (fail)
      go_wp2_with fail
      go_quiet (first | (go_at_call 34; refine Calls.quiet_of_same (HC.out _)))
      go_wp2
      go_ret
      exact ⟨retb HR.out, bdN _ (bdN _ (bel1 _ _))⟩
  · have HR : Hid (vRight (4, n, s, f) = false) := hid (by rw [vR4]; simp [hn])
    have d3 : (n == 0) = false := by simpa using hn
    have d4 : (n != 0) = true := by simpa using hn
    clear hs
    go_enter Tryz.func11, Tryz.ntmps11
    go_wp2_with fail
    go_quiet (fail)
    go_wp2_with fail
    go_quiet (first | (go_at_call 34; refine Calls.quiet_of_same (HC.out _)))
    go_wp2
    go_ret
    exact ⟨retb HR.out, bdN _ (bdN _ (bel1 _ _))⟩
theorem rRight_c (v : Vl) (hf : vf v < 18446744073709551616) (w : World) :
    Calls Tryz.prog 11 #[(.agg #[.int .i64 (vk v), .int .i64 (vn v), .string (str (vs v)), .int .u64 ((vf v : Nat) : Int)])] w fun e w' => e = .returned (.bool (vRight v)) ∧ Below w.heap.size w w' := by
  obtain ⟨k, n, s, f⟩ := v
  by_cases hk : k = 4
  · subst hk; exact rRight_c4 n s f hf w
  · exact rRight_c0 k n s f w hk
end Go.Proofs.YtfjpnkchldjjmaaGreatDoor
