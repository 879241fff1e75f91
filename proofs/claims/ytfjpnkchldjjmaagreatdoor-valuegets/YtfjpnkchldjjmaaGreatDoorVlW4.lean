/- What value.Compare and value.Order return: how two values stand. -/
import Derived.Test.YtfjpnkchldjjmaaGreatDoorVlW3
import Derived.Deep.DeepCutAuto
namespace Go.Proofs.YtfjpnkchldjjmaaGreatDoor
open Go.RowKit

theorem Blk.put4 {w : World} {g : Nat} {t : TypeId} {x0 x1 x2 x3 : Value} (h : Blk w g t #[x0, x1, x2, x3]) (a0 a1 a2 a3 : Value) :
    Blk ((((w.setCell ⟨g, 0, none⟩ a0).setCell ⟨g, 1, none⟩ a1).setCell ⟨g, 2, none⟩ a2).setCell ⟨g, 3, none⟩ a3) g t #[a0, a1, a2, a3] := by
  have h1 := (((h.store 0 a0).store 1 a1).store 2 a2).store 3 a3
  simpa using h1
theorem Blk.far {w : World} {g : Nat} {t : TypeId} {cs : Array Value} (h : Blk w g t cs) {h' : Nat} (hn : g ≠ h') (i : Nat) (u : Value) : Blk (w.setCell ⟨h', i, none⟩ u) g t cs := h.keep (Below.heap_setCell w _ u g hn)
theorem Blk.far4 {w : World} {g : Nat} {t : TypeId} {cs : Array Value} (h : Blk w g t cs) {h' : Nat} (hn : g ≠ h') (a0 a1 a2 a3 : Value) :
    Blk ((((w.setCell ⟨h', 0, none⟩ a0).setCell ⟨h', 1, none⟩ a1).setCell ⟨h', 2, none⟩ a2).setCell ⟨h', 3, none⟩ a3) g t cs := (((h.far hn 0 a0).far hn 1 a1).far hn 2 a2).far hn 3 a3
/-- Two values, laid side by side: what is known of a world behind whatever leaves them. -/
theorem two_boxes {w : World} {t : TypeId} {cs ds : Array Value} {wz : World} (hb0 : Below ((w.alloc (.cells cs t)).alloc (.cells ds t)).drew.heap.size ((w.alloc (.cells cs t)).alloc (.cells ds t)).drew wz) :
    Blk wz w.heap.size t cs ∧ Blk wz (w.heap.size + 1) t ds ∧ Below w.heap.size w wz :=
  have hb : Below ((w.alloc (.cells cs t)).alloc (.cells ds t)).heap.size ((w.alloc (.cells cs t)).alloc (.cells ds t)) wz := (Below.refl _ _).drew.trans hb0
  ⟨((Blk.new w t cs).old _).bel hb (by simp; omega), by
    have h := (Blk.new (w.alloc (.cells cs t)) t ds).bel hb (by simp)
    rw [sz1] at h
    exact h, (bel2 w _ _).trans (hb.mono (by simp; omega))⟩

theorem two_boxes0 {w : World} {t : TypeId} {cs ds : Array Value} {wz : World} (hb : Below ((w.alloc (.cells cs t)).alloc (.cells ds t)).heap.size ((w.alloc (.cells cs t)).alloc (.cells ds t)) wz) :
    Blk wz w.heap.size t cs ∧ Blk wz (w.heap.size + 1) t ds ∧ Below w.heap.size w wz :=
  ⟨((Blk.new w t cs).old _).bel hb (by simp; omega), by
    have h := (Blk.new (w.alloc (.cells cs t)) t ds).bel hb (by simp)
    rw [sz1] at h
    exact h, (bel2 w _ _).trans (hb.mono (by simp; omega))⟩

set_option maxRecDepth 20000 in
set_option maxHeartbeats 2000000 in
theorem vcompare_c (a b : Vl) (fa : vf a < 18446744073709551616) (fb : vf b < 18446744073709551616) (w : World) :
    Calls Tryz.prog 13 #[(.agg #[.int .i64 (vk a), .int .i64 (vn a), .string (str (vs a)), .int .u64 ((vf a : Nat) : Int)]), (.agg #[.int .i64 (vk b), .int .i64 (vn b), .string (str (vs b)), .int .u64 ((vf b : Nat) : Int)])] w fun e w' => e = .returned (.tuple #[.int .i64 (vCmp a b), .bool (vCmpOk a b)]) ∧ Below w.heap.size w w' := by
  have HA := hid (fun wx => rightOrNull_c a fa wx)
  have HB := hid (fun wx => rightOrNull_c b fb wx)
  have HFA := hid (vRt_f fa)
  have HFB := hid (vRt_f fb)
  have HK := hid (vRt_k a)
  have HX := hid (fun wz => two_boxes (w := w) (t := 26) (cs := #[.int .i64 (vk a), .int .i64 (vn a), .string (str (vs a)), .int .u64 ((vf a : Nat) : Int)]) (ds := #[.int .i64 (vk b), .int .i64 (vn b), .string (str (vs b)), .int .u64 ((vf b : Nat) : Int)]) (wz := wz))
  have HC : Hid (vCmp a b = vCmpR (vRt a) (vRt b) ∧ vCmpOk a b = vCmpOkR (vRt a) (vRt b)) := hid ⟨rfl, rfl⟩
  generalize vCmp a b = rc at *
  generalize vCmpOk a b = ro at *
  generalize vRt a = ra at *
  generalize vRt b = rb at *
  clear fa fb
  go_enter Tryz.func13, Tryz.ntmps13
  go_wp2_with fail
  go_cut [] (fun wx => Blk wx w.heap.size 26 #[.int .i64 (vk ra), .int .i64 (vn ra), .string (str (vs ra)), .int .u64 ((vf ra : Nat) : Int)] ∧ Blk wx (w.heap.size + 1) 26 #[.int .i64 (vk rb), .int .i64 (vn rb), .string (str (vs rb)), .int .u64 ((vf rb : Nat) : Int)] ∧ Below w.heap.size w wx)
  case first =>
    go_region_with (first
      | (go_at_call 20; refine (HA.out _).mono ?_; rintro e wz ⟨rfl, hbz⟩; obtain ⟨q0, q1, q2, q3, qf⟩ := (HX.out wz hbz).2.1.v4)
      | (go_at_call 20; refine (HB.out _).mono ?_; rintro e wy ⟨rfl, hby⟩; have hbx := HX.out wy (hbz.trans (hby.mono hbz.size)); obtain ⟨r0, r1, r2, r3, rf⟩ := hbx.1.v4; obtain ⟨s0, s1, s2, s3, sf⟩ := hbx.2.1.v4))
    all_goals (go_wp2_with fail; go_meet; exact ⟨(hbx.1.put4 _ _ _ _).far4 (by omega) _ _ _ _, (hbx.2.1.far4 (by omega) _ _ _ _).put4 _ _ _ _, bel4 (bel4 hbx.2.2 (Nat.le_refl _) _ _ _ _) (by omega) _ _ _ _⟩)
  case rest =>
    clear HA HB HX
    obtain ⟨c1, c2, hbel⟩ := hcut
    obtain ⟨p0, p1, p2, p3, -⟩ := c1.v4
    obtain ⟨q0, q1, q2, q3, -⟩ := c2.v4
    have HBEL := hid hbel
    clear c1 c2 hbel
    by_cases hk : vk ra = vk rb
    · have d0 : (vk ra != vk rb) = false := by simpa using hk
      have e1 : ∀ c : Int, vk ra = c → ∀ x : Int, x ≠ c → (vk ra == x) = false := fun c h x hx => by rw [h]; simpa using fun e => hx e.symm
      rcases HK.out with h | h | h | h | h
      · have t1 := e1 0 h 1 (by decide)
        have t2 := e1 0 h 2 (by decide)
        have t3 := e1 0 h 3 (by decide)
        have t4 := e1 0 h 4 (by decide)
        have HE := hid (cmpR_0 (b := rb) h)
        clear e1 h hk
        go_wp2
        go_ret2
        exact ⟨by rw [HC.out.1, HC.out.2, HE.out.1, HE.out.2]; rfl, HBEL.out⟩
      · have t1 : (vk ra == 1) = true := by rw [h]; rfl
        have HE := hid (cmpR_12 hk (.inl h))
        clear e1 h hk
        go_wp2_with fail
        refine (cmpI_c _ _ _).mono ?_
        rintro e w' ⟨rfl, rfl⟩
        go_wp2
        go_ret2
        exact ⟨by rw [HC.out.1, HC.out.2, HE.out.1, HE.out.2]; rfl, HBEL.out⟩
      · have t1 := e1 2 h 1 (by decide)
        have t2 : (vk ra == 2) = true := by rw [h]; rfl
        have HE := hid (cmpR_12 hk (.inr h))
        clear e1 h hk
        go_wp2_with fail
        refine (cmpI_c _ _ _).mono ?_
        rintro e w' ⟨rfl, rfl⟩
        go_wp2
        go_ret2
        exact ⟨by rw [HC.out.1, HC.out.2, HE.out.1, HE.out.2]; rfl, HBEL.out⟩
      · have t1 := e1 3 h 1 (by decide)
        have t2 := e1 3 h 2 (by decide)
        have t3 : (vk ra == 3) = true := by rw [h]; rfl
        have HE := hid (cmpR_3 hk h)
        clear e1 h hk
        go_wp2_with fail
        refine (cmpS_c _ _ _).mono ?_
        rintro e w' ⟨rfl, rfl⟩
        go_wp2
        go_ret2
        exact ⟨by rw [HC.out.1, HC.out.2, HE.out.1, HE.out.2]; rfl, HBEL.out⟩
      · have t1 := e1 4 h 1 (by decide)
        have t2 := e1 4 h 2 (by decide)
        have t3 := e1 4 h 3 (by decide)
        have t4 : (vk ra == 4) = true := by rw [h]; rfl
        have HE := hid (cmpR_4 hk h)
        clear e1 h hk
        go_wp2_with fail
        refine (compare_c _ _ HFA.out HFB.out _).mono ?_
        rintro e w' ⟨rfl, rfl⟩
        go_wp2
        go_ret2
        exact ⟨by rw [HC.out.1, HC.out.2, HE.out.1, HE.out.2]; rfl, HBEL.out⟩
    · have d0 : (vk ra != vk rb) = true := by simpa using hk
      have HE := hid (cmpR_ne hk)
      clear hk
      go_wp2
      go_ret2
      exact ⟨by rw [HC.out.1, HC.out.2, HE.out.1, HE.out.2]; rfl, HBEL.out⟩
set_option maxRecDepth 20000 in
set_option maxHeartbeats 2000000 in
theorem vorder_c (a b : Vl) (fa : vf a < 18446744073709551616) (fb : vf b < 18446744073709551616) (w : World) :
    Calls Tryz.prog 16 #[(.agg #[.int .i64 (vk a), .int .i64 (vn a), .string (str (vs a)), .int .u64 ((vf a : Nat) : Int)]), (.agg #[.int .i64 (vk b), .int .i64 (vn b), .string (str (vs b)), .int .u64 ((vf b : Nat) : Int)])] w fun e w' => e = .returned (.int .i64 (vOrd a b)) ∧ Below w.heap.size w w' := by
  have HA := hid (fun wx => rightOrNull_c a fa wx)
  have HB := hid (fun wx => rightOrNull_c b fb wx)
  have HFA := hid (vRt_f fa)
  have HFB := hid (vRt_f fb)
  have HX := hid (fun wz => two_boxes (w := w) (t := 26) (cs := #[.int .i64 (vk a), .int .i64 (vn a), .string (str (vs a)), .int .u64 ((vf a : Nat) : Int)]) (ds := #[.int .i64 (vk b), .int .i64 (vn b), .string (str (vs b)), .int .u64 ((vf b : Nat) : Int)]) (wz := wz))
  have HC : Hid (vOrd a b = vOrdR (vRt a) (vRt b)) := hid rfl
  have HRA := hid (vRt_vRt a)
  have HRB := hid (vRt_vRt b)
  generalize vOrd a b = rc at *
  generalize vRt a = ra at *
  generalize vRt b = rb at *
  clear fa fb
  go_enter Tryz.func16, Tryz.ntmps16
  go_wp2_with fail
  go_cut [] (fun wx => Blk wx w.heap.size 26 #[.int .i64 (vk ra), .int .i64 (vn ra), .string (str (vs ra)), .int .u64 ((vf ra : Nat) : Int)] ∧ Blk wx (w.heap.size + 1) 26 #[.int .i64 (vk rb), .int .i64 (vn rb), .string (str (vs rb)), .int .u64 ((vf rb : Nat) : Int)] ∧ Below w.heap.size w wx)
  case first =>
    go_region_with (first
      | (go_at_call 20; refine (HA.out _).mono ?_; rintro e wz ⟨rfl, hbz⟩; obtain ⟨q0, q1, q2, q3, qf⟩ := (HX.out wz hbz).2.1.v4)
      | (go_at_call 20; refine (HB.out _).mono ?_; rintro e wy ⟨rfl, hby⟩; have hbx := HX.out wy (hbz.trans (hby.mono hbz.size)); obtain ⟨r0, r1, r2, r3, rf⟩ := hbx.1.v4; obtain ⟨s0, s1, s2, s3, sf⟩ := hbx.2.1.v4))
    all_goals (go_wp2_with fail; go_meet; exact ⟨(hbx.1.put4 _ _ _ _).far4 (by omega) _ _ _ _, (hbx.2.1.far4 (by omega) _ _ _ _).put4 _ _ _ _, bel4 (bel4 hbx.2.2 (Nat.le_refl _) _ _ _ _) (by omega) _ _ _ _⟩)
  case rest =>
    clear HA HB HX
    obtain ⟨c1, c2, hbel⟩ := hcut
    obtain ⟨p0, p1, p2, p3, -⟩ := c1.v4
    obtain ⟨q0, q1, q2, q3, -⟩ := c2.v4
    have HBEL := hid hbel
    clear c1 c2 hbel
    by_cases hk : vk ra = vk rb
    · have d0 : (vk ra != vk rb) = false := by simpa using hk
      by_cases h4 : vk ra = 4
      · have t4 : (vk ra == 4) = true := by rw [h4]; rfl
        have HE := hid (ordR_4 hk h4)
        clear hk h4
        go_wp2_with fail
        refine (order_c _ _ HFA.out HFB.out _).mono ?_
        rintro e w' ⟨rfl, rfl⟩
        go_wp2
        go_ret
        exact ⟨by rw [HC.out, HE.out]; rfl, HBEL.out⟩
      · have t4 : (vk ra == 4) = false := by simpa using h4
        have HE := hid (ordR_cmp hk h4)
        clear hk h4
        go_wp2_with fail
        refine (vcompare_c ra rb HFA.out HFB.out _).mono ?_
        rintro e w2 ⟨rfl, hb2⟩
        have HV : Hid (vCmp ra rb = vCmpR ra rb) := hid (by unfold vCmp; rw [HRA.out, HRB.out])
        have hb3 := HBEL.out.trans (hb2.mono HBEL.out.size)
        go_wp2
        go_ret
        exact ⟨by rw [HC.out, HE.out, ← HV.out]; rfl, hb3⟩
    · have d0 : (vk ra != vk rb) = true := by simpa using hk
      have HE := hid (ordR_ne hk)
      clear hk
      go_wp2_with fail
      refine (cmpK_c _ _ _).mono ?_
      rintro e w' ⟨rfl, rfl⟩
      go_wp2
      go_ret
      exact ⟨by rw [HC.out, HE.out]; rfl, HBEL.out⟩
end Go.Proofs.YtfjpnkchldjjmaaGreatDoor
