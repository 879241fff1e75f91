/- What the small calls of a vault return: whether a key is right, whether it is destroyed, bytes in memory of their own, how many were sealed. -/
import Derived.Test.YtaailoodhaibiaaVtRep
namespace Go.Proofs.Ytaailoodhaibiaa
open Go.RowKit

theorem right_c (k : Ky) (w : World) : Calls Try.prog 16 #[(.agg #[.int .i64 (k).t, .int .i64 (k).c, .int .i64 (k).e])] w fun e w' => e = .returned (.bool (decide k.right)) ∧ Below w.heap.size w w' := by
  go_enter Try.func16, Try.ntmps16
  have HB : Hid (Below w.heap.size w (w.alloc (.cells #[.int .i64 k.t, .int .i64 k.c, .int .i64 k.e] 32))) := hid ((Below.refl _ _).alloc (Nat.le_refl _) _)
  by_cases h1 : 0 ≤ k.t
  · have e1 : decide (0 ≤ k.t) = true := by simpa using h1
    by_cases h2 : 0 ≤ k.c
    · have e2 : decide (0 ≤ k.c) = true := by simpa using h2
      have HE : Hid (decide k.right = decide (0 ≤ k.e)) := hid (by unfold Ky.right; simp [h1, h2])
      rw [HE.out]
      clear h1 h2 HE
      go_wp2
      go_ret
      exact ⟨rfl, HB.out⟩
    · have e2 : decide (0 ≤ k.c) = false := by simpa using h2
      have HE : Hid (decide k.right = false) := hid (by unfold Ky.right; simp [h2])
      rw [HE.out]
      clear h1 h2 HE
      go_wp2
      go_ret
      exact ⟨rfl, HB.out⟩
  · have e1 : decide (0 ≤ k.t) = false := by simpa using h1
    have HE : Hid (decide k.right = false) := hid (by unfold Ky.right; simp [h1])
    rw [HE.out]
    clear h1 HE
    go_wp2
    go_ret
    exact ⟨rfl, HB.out⟩

theorem sealed_c (w : World) (F : Nat → Prop) (g : Nat) (s : Va) (h : Vlt w F g s) :
    Calls Try.prog 15 #[.pointer (some ⟨g, 0, none⟩)] w fun e w' => e = .returned (.int .i64 (s.L.length : Int)) ∧ w = w' := by
  obtain ⟨m, A, c, es, h⟩ := h
  obtain ⟨h0, -⟩ := h.cells
  rw [h.len] at h0
  clear h
  go_enter Try.func15, Try.ntmps15
  go_wp2
  go_ret
  exact ⟨rfl, rfl⟩
theorem sealed_nil (w : World) :
    Calls Try.prog 15 #[.pointer none] w fun e w' => e = .returned (.int .i64 0) ∧ w = w' := by
  go_enter Try.func15, Try.ntmps15
  go_wp2
  go_ret
  exact ⟨rfl, rfl⟩

set_option maxHeartbeats 1000000 in
theorem gone_c (w : World) (F : Nat → Prop) (g : Nat) (s : Va) (h : Vlt w F g s) (k : Ky) (hk : k.wf) :
    Calls Try.prog 17 #[.pointer (some ⟨g, 0, none⟩), (.agg #[.int .i64 (k).t, .int .i64 (k).c, .int .i64 (k).e])] w fun e w' => e = .returned (.bool (decide (k ∈ s.G))) ∧ Below w.heap.size w w' := by
  obtain ⟨m, A, c, es, h⟩ := h
  have HB : Hid (Below w.heap.size w (w.alloc (.cells #[.int .i64 k.t, .int .i64 k.c, .int .i64 k.e] 32))) := hid ((Below.refl _ _).alloc (Nat.le_refl _) _)
  have hs1 : (w.alloc (.cells #[.int .i64 k.t, .int .i64 k.c, .int .i64 k.e] 32)).heap.size = w.heap.size + 1 := by simp
  have hk1 := Blk.new w 32 #[.int .i64 k.t, .int .i64 k.c, .int .i64 k.e]
  have HA : Hid (∀ wx, Below (w.heap.size + 1) (w.alloc (.cells #[.int .i64 k.t, .int .i64 k.c, .int .i64 k.e] 32)) wx → wx.cell? ⟨g, 1, none⟩ = some (.map (some m)) ∧ wx.cell? ⟨w.heap.size, 0, none⟩ = some (.int .i64 k.t) ∧ wx.cell? ⟨w.heap.size, 1, none⟩ = some (.int .i64 k.c) ∧ wx.cell? ⟨w.heap.size, 2, none⟩ = some (.int .i64 k.e) ∧
      (Instr.lookup 58 (.map (some m)) (.agg #[.int .i64 (k).t, .int .i64 (k).c, .int .i64 (k).e]) true).run Try.prog wx = .ok (.tuple #[.agg #[], .bool (decide (k ∈ s.G))]) wx) := hid (fun wx hx => by
    have hv := (h.bel HB.out).bel (hx.mono (by rw [hs1]; exact Nat.le_refl _))
    have hb := hk1.keep (hx.block w.heap.size (by omega))
    exact ⟨hv.cells.2, by simpa using hb.cell 0, by simpa using hb.cell 1, by simpa using hb.cell 2, hv.look k hk⟩)
  generalize decide (k ∈ s.G) = q at *
  have HS1 := hid hs1
  clear h hk hs1 hk1
  go_enter Try.func17, Try.ntmps17
  go_wp2_with fail
  generalize w.alloc (.cells #[.int .i64 k.t, .int .i64 k.c, .int .i64 k.e] 32) = w1 at *
  refine wp_region_held_drew (S := fun wx => Below (w.heap.size + 1) w1 wx) (by kernel_rfl) ((Below.refl _ _).drew) (fun HS => ?_)
  refine wpAnyH_take (i := 0) (oi := ?oi0) (v := ?v0) ?hi0 (by kernel_rfl) (by kernel_rfl) (by kernel_rfl) ?hQ0 ?hy0 HS ?rest0
  case hi0 => simp only [List.getElem?_toArray, List.getElem?_cons_zero]; exact rfl
  case hQ0 => exact fun _ _ _ h => h
  case hy0 =>
    refine Or.inl ⟨by rfl, ?_⟩
    intro wS hSw
    go_simp
    try with_reducible rfl
  try simp only [Act.put, List.setIfInBounds_toArray, List.set_cons_zero, List.set_cons_succ]
  refine wpAnyH_take (i := 1) (oi := ?oi1) (v := ?v1) ?hi1 (by kernel_rfl) (by kernel_rfl) (by kernel_rfl) ?hQ1 ?hy1 HS ?rest1
  case hi1 => simp only [List.getElem?_toArray, List.getElem?_cons_succ, List.getElem?_cons_zero]; exact rfl
  case hQ1 => exact fun _ _ _ h => h
  case hy1 =>
    refine Or.inl ⟨by rfl, ?_⟩
    intro wS hSw
    go_simp
    try with_reducible rfl
  try simp only [Act.put, List.setIfInBounds_toArray, List.set_cons_zero, List.set_cons_succ]
  refine wpAnyH_take (i := 2) (oi := ?oi2) (v := ?v2) ?hi2 (by kernel_rfl) (by kernel_rfl) (by kernel_rfl) ?hQ2 ?hy2 HS ?rest2
  case hi2 => simp only [List.getElem?_toArray, List.getElem?_cons_succ, List.getElem?_cons_zero]; exact rfl
  case hQ2 => exact fun _ _ _ h => h
  case hy2 =>
    refine Or.inl ⟨by rfl, ?_⟩
    intro wS hSw
    go_simp
    try with_reducible rfl
  try simp only [Act.put, List.setIfInBounds_toArray, List.set_cons_zero, List.set_cons_succ]
  refine wpAnyH_take (i := 3) (oi := ?oi3) (v := ?v3) ?hi3 (by kernel_rfl) (by kernel_rfl) (by kernel_rfl) ?hQ3 ?hy3 HS ?rest3
  case hi3 => simp only [List.getElem?_toArray, List.getElem?_cons_succ, List.getElem?_cons_zero]; exact rfl
  case hQ3 => exact fun _ _ _ h => h
  case hy3 =>
    refine Or.inl ⟨by rfl, ?_⟩
    intro wS hSw
    obtain ⟨c1, k0, k1, k2, lk⟩ := HA.out wS hSw
    go_simp
    try with_reducible rfl
  try simp only [Act.put, List.setIfInBounds_toArray, List.set_cons_zero, List.set_cons_succ]
  refine wpAnyH_take (i := 4) (oi := ?oi4) (v := ?v4) ?hi4 (by kernel_rfl) (by kernel_rfl) (by kernel_rfl) ?hQ4 ?hy4 HS ?rest4
  case hi4 => simp only [List.getElem?_toArray, List.getElem?_cons_succ, List.getElem?_cons_zero]; exact rfl
  case hQ4 => exact fun _ _ _ h => h
  case hy4 =>
    refine Or.inl ⟨by rfl, ?_⟩
    intro wS hSw
    obtain ⟨c1, k0, k1, k2, lk⟩ := HA.out wS hSw
    go_simp
    try with_reducible rfl
  try simp only [Act.put, List.setIfInBounds_toArray, List.set_cons_zero, List.set_cons_succ]
  refine wpAnyH_take (i := 5) (oi := ?oi5) (v := ?v5) ?hi5 (by kernel_rfl) (by kernel_rfl) (by kernel_rfl) ?hQ5 ?hy5 HS ?rest5
  case hi5 => simp only [List.getElem?_toArray, List.getElem?_cons_succ, List.getElem?_cons_zero]; exact rfl
  case hQ5 => exact fun _ _ _ h => h
  case hy5 =>
    refine Or.inl ⟨by rfl, ?_⟩
    intro wS hSw
    obtain ⟨c1, k0, k1, k2, lk⟩ := HA.out wS hSw
    go_simp
    try with_reducible rfl
  try simp only [Act.put, List.setIfInBounds_toArray, List.set_cons_zero, List.set_cons_succ]
  refine wpAnyH_take (i := 6) (oi := ?oi6) (v := ?v6) ?hi6 (by kernel_rfl) (by kernel_rfl) (by kernel_rfl) ?hQ6 ?hy6 HS ?rest6
  case hi6 => simp only [List.getElem?_toArray, List.getElem?_cons_succ, List.getElem?_cons_zero]; exact rfl
  case hQ6 => exact fun _ _ _ h => h
  case hy6 =>
    refine Or.inl ⟨by rfl, ?_⟩
    intro wS hSw
    go_simp
    try with_reducible rfl
  try simp only [Act.put, List.setIfInBounds_toArray, List.set_cons_zero, List.set_cons_succ]
  refine wpAnyH_take (i := 7) (oi := ?oi7) (v := ?v7) ?hi7 (by kernel_rfl) (by kernel_rfl) (by kernel_rfl) ?hQ7 ?hy7 HS ?rest7
  case hi7 => simp only [List.getElem?_toArray, List.getElem?_cons_succ, List.getElem?_cons_zero]; exact rfl
  case hQ7 => exact fun _ _ _ h => h
  case hy7 =>
    refine Or.inl ⟨by rfl, ?_⟩
    intro wS hSw
    go_simp
    try with_reducible rfl
  try simp only [Act.put, List.setIfInBounds_toArray, List.set_cons_zero, List.set_cons_succ]
  refine wpAnyH_take (i := 8) (oi := ?oi8) (v := ?v8) ?hi8 (by kernel_rfl) (by kernel_rfl) (by kernel_rfl) ?hQ8 ?hy8 HS ?rest8
  case hi8 => simp only [List.getElem?_toArray, List.getElem?_cons_succ, List.getElem?_cons_zero]; exact rfl
  case hQ8 => exact fun _ _ _ h => h
  case hy8 =>
    refine Or.inl ⟨by rfl, ?_⟩
    intro wS hSw
    go_simp
    try with_reducible rfl
  try simp only [Act.put, List.setIfInBounds_toArray, List.set_cons_zero, List.set_cons_succ]
  refine wpAnyH_ready (rs := [9]) (by kernel_rfl) (by simp) ?_
  refine AllReadyH.cons (o := ?o9) ?ho9 (fun K hK => ?step9) AllReadyH.nil
  case ho9 => simp only [List.getElem?_toArray, List.getElem?_cons_succ, List.getElem?_cons_zero]; exact rfl
  go_simp
  refine hK.out _ _ ((Below.refl _ _).drew.alloc (by have := HS1.out; simp; omega) _) (fun HS => ?_)
  clear hK K
  try simp only [Act.put, List.setIfInBounds_toArray, List.set_cons_zero, List.set_cons_succ]
  refine wpAnyH_ready (rs := [10]) (by kernel_rfl) (by simp) ?_
  refine AllReadyH.cons (o := ?o10) ?ho10 (fun K hK => ?step10) AllReadyH.nil
  case ho10 => simp only [List.getElem?_toArray, List.getElem?_cons_succ, List.getElem?_cons_zero]; exact rfl
  go_simp
  refine hK.out _ _ ((Below.refl _ _).drew.alloc (by have := HS1.out; simp; omega) _) (fun HS => ?_)
  clear hK K
  try simp only [Act.put]
  refine wpAnyH_take (i := 11) (oi := ?oi11) (v := ?v11) ?hi11 (by kernel_rfl) (by kernel_rfl) (by kernel_rfl) ?hQ11 ?hy11 HS ?rest11
  case hi11 => simp only [List.getElem?_toArray, List.getElem?_cons_succ, List.getElem?_cons_zero]; exact rfl
  case hQ11 => exact fun _ _ _ h => h
  case hy11 =>
    refine Or.inl ⟨by rfl, ?_⟩
    intro wS hSw
    go_simp
    try with_reducible rfl
  try simp only [Act.put, List.setIfInBounds_toArray, List.set_cons_zero, List.set_cons_succ]
  refine wpAnyH_done (by kernel_rfl) ?_ _
  have HX := hid HS
  clear HS
  go_wp2
  go_ret
  exact ⟨rfl, HB.out.trans (HX.out.mono (by omega))⟩
end Go.Proofs.Ytaailoodhaibiaa
