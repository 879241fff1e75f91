/- The walk of PageHandles: it answers true, whatever the input. -/
import Derived.Test.YtbkcjpogafkoeaaPgFirst
import Derived.Test.YtbkcjpogafkoeaaPgRf
import Derived.Test.YtbkcjpogafkoeaaPgRh
import Derived.Test.YtbkcjpogafkoeaaFrame
namespace Go.Proofs.Ytbkcjpogafkoeaa
open Go.RowKit

set_option maxRecDepth 100000 in
set_option maxHeartbeats 4000000 in
theorem walkPageHandles (a0 : Option Addr) (n0 c0 : Nat) (z0 : List Int) (p : Pg) (i : Int) (w : World) (w0 : IsRow .u8 w a0 n0 c0 z0) (hp : p.wf) (wi : (Lit.int .i64 i).wf = true) :
    Calls Try.prog 5 #[.slice a0 n0 c0, (.agg #[.int .i64 (p).k.t, .int .i64 (p).k.c, .int .i64 (p).k.e, .int .i64 (p).id, .int .i64 (p).ver]), .int .i64 i] w fun e w' => e = .returned (.bool true) ∧ Below w.heap.size w w' := by
  obtain ⟨l, hb, hc, hcm⟩ := argB w0
  have hi : i64ok i := wf_i64 wi
  have hb1 : Below w.heap.size w (w.alloc (.cells #[.int .i64 p.k.t, .int .i64 p.k.c, .int .i64 p.k.e, .int .i64 p.id, .int .i64 p.ver] 41)) := (Below.refl _ _).alloc (Nat.le_refl _) _
  have hB : PgB (w.alloc (.cells #[.int .i64 p.k.t, .int .i64 p.k.c, .int .i64 p.k.e, .int .i64 p.id, .int .i64 p.ver] 41)) w.heap.size p := Blk.new w 41 #[.int .i64 p.k.t, .int .i64 p.k.c, .int .i64 p.k.e, .int .i64 p.id, .int .i64 p.ver]
  have hf := pfirst_c (w.alloc (.cells #[.int .i64 p.k.t, .int .i64 p.k.c, .int .i64 p.k.e, .int .i64 p.id, .int .i64 p.ver] 41))
  have HB := hid hb
  have HC := hid hc
  have HCM := hid hcm
  have HP := hid hp
  have HI := hid hi
  have HB1 := hid hb1
  have HPB := hid hB
  have HS1 : Hid ((w.alloc (.cells #[.int .i64 p.k.t, .int .i64 p.k.c, .int .i64 p.k.e, .int .i64 p.id, .int .i64 p.ver] 41)).heap.size = w.heap.size + 1) := hid (by simp)
  clear w0 hb hc hcm hp hi hb1 hB wi
  by_cases hn : 100 < n0
  · have e1 : decide ((100 : Int) < (n0 : Int)) = true := by simp; omega
    have e2 : decide (100 < n0) = true := by simpa using hn
    clear hn
    go_enter Try.func5, Try.ntmps5
    go_wp2_with fail
    refine hf.mono ?_
    rintro e w1 ⟨rfl, hb1⟩
    have HB2 := hid (HB1.out.trans (hb1.mono HB1.out.size))
    clear hf hb1
    go_wp2
    go_ret
    exact ⟨rfl, HB2.out⟩
  have e1 : decide ((100 : Int) < (n0 : Int)) = false := by simp; omega
  have e2 : decide (100 < n0) = false := by simpa using hn
  have HLL : Hid (l.length ≤ 1000000) := hid (by rw [HB.out.len]; omega)
  clear hn
  go_enter Try.func5, Try.ntmps5
  go_wp2_with fail
  refine hf.mono ?_
  rintro e w1 ⟨rfl, hb1⟩
  have HB2 := hid (HB1.out.trans (hb1.mono HB1.out.size))
  have HPB2 := hid (HPB.out.below hb1 (by have := HS1.out; omega))
  have HBT2 := hid ((HB.out.below HB2.out (Nat.le_refl _)).wide (Nat.le_refl _) HB2.out.size)
  have hh := handle_c a0 n0 c0 l w1 HBT2.out HC.out HCM.out
  have hst := run_str (P := Try.prog) (c := c0) 42 9 5 Try.underlying42 Try.underlying5 Try.underlying9 HBT2.out
  have hrh := rhandle_c l w1 HLL.out
  have HHL := hid (hOf_lt l)
  clear hf hb1 HB1 HPB HS1 HB
  generalize hOf l = h at *
  go_wp2_with fail
  refine hh.mono ?_
  rintro e w2 ⟨rfl, rfl⟩
  clear hh e1 e2
  go_wp2_with fail
  refine hrh.mono ?_
  rintro e w2 ⟨rfl, rfl⟩
  clear hrh hst HBT2
  have HPBd := hid (pgB_drew HPB2.out)
  have HB3 := hid HB2.out.drew
  clear HB2 HPB2
  by_cases hz : h = 0
  · subst hz
    rw [show decide (0 < 0) = false from rfl]
    as_aux_lemma =>
    go_wp2_with fail
    refine wp_region_held_drew (S := fun wx => wx.cell? ⟨w.heap.size, 0, none⟩ = some (.int .i64 p.k.t) ∧ wx.cell? ⟨w.heap.size, 1, none⟩ = some (.int .i64 p.k.c) ∧ wx.cell? ⟨w.heap.size, 2, none⟩ = some (.int .i64 p.k.e) ∧ wx.cell? ⟨w.heap.size, 3, none⟩ = some (.int .i64 p.id) ∧ wx.cell? ⟨w.heap.size, 4, none⟩ = some (.int .i64 p.ver)) (by kernel_rfl) (pgB_cells HPBd.out) (fun HS => ?_)
    generalize w1.drew = w3 at *
    refine wpAnyH_take (i := 0) (oi := ?oixz0) (v := ?vxz0) ?hixz0 (by kernel_rfl) (by kernel_rfl) (by kernel_rfl) ?hQxz0 ?hyxz0 HS ?restxz0
    case hixz0 => simp only [List.getElem?_toArray, List.getElem?_cons_zero]; exact rfl
    case hQxz0 => exact fun _ _ _ h => h
    case hyxz0 =>
      refine Or.inl ⟨by rfl, ?_⟩
      intro wS hSw
      go_simp
      try with_reducible rfl
    try simp only [Act.put, List.setIfInBounds_toArray, List.set_cons_zero, List.set_cons_succ]
    refine wpAnyH_take (i := 1) (oi := ?oixz1) (v := ?vxz1) ?hixz1 (by kernel_rfl) (by kernel_rfl) (by kernel_rfl) ?hQxz1 ?hyxz1 HS ?restxz1
    case hixz1 => simp only [List.getElem?_toArray, List.getElem?_cons_succ, List.getElem?_cons_zero]; exact rfl
    case hQxz1 => exact fun _ _ _ h => h
    case hyxz1 =>
      refine Or.inl ⟨by rfl, ?_⟩
      intro wS hSw
      go_simp
      try with_reducible rfl
    try simp only [Act.put, List.setIfInBounds_toArray, List.set_cons_zero, List.set_cons_succ]
    refine wpAnyH_take (i := 2) (oi := ?oixz2) (v := ?vxz2) ?hixz2 (by kernel_rfl) (by kernel_rfl) (by kernel_rfl) ?hQxz2 ?hyxz2 HS ?restxz2
    case hixz2 => simp only [List.getElem?_toArray, List.getElem?_cons_succ, List.getElem?_cons_zero]; exact rfl
    case hQxz2 => exact fun _ _ _ h => h
    case hyxz2 =>
      refine Or.inl ⟨by rfl, ?_⟩
      intro wS hSw
      go_simp
      try with_reducible rfl
    try simp only [Act.put, List.setIfInBounds_toArray, List.set_cons_zero, List.set_cons_succ]
    refine wpAnyH_take (i := 3) (oi := ?oixz3) (v := ?vxz3) ?hixz3 (by kernel_rfl) (by kernel_rfl) (by kernel_rfl) ?hQxz3 ?hyxz3 HS ?restxz3
    case hixz3 => simp only [List.getElem?_toArray, List.getElem?_cons_succ, List.getElem?_cons_zero]; exact rfl
    case hQxz3 => exact fun _ _ _ h => h
    case hyxz3 =>
      refine Or.inl ⟨by rfl, ?_⟩
      intro wS hSw
      go_simp
      try with_reducible rfl
    try simp only [Act.put, List.setIfInBounds_toArray, List.set_cons_zero, List.set_cons_succ]
    refine wpAnyH_take (i := 4) (oi := ?oixz4) (v := undef) ?hixz4 (by kernel_rfl) (by kernel_rfl) (by kernel_rfl) ?hQxz4 ?hyxz4 HS ?restxz4
    case hixz4 => simp only [List.getElem?_toArray, List.getElem?_cons_succ, List.getElem?_cons_zero]; exact rfl
    case hQxz4 => exact fun _ _ _ h => h
    case hyxz4 =>
      refine Or.inr ⟨by rfl, rfl⟩
    try simp only [Act.put, List.setIfInBounds_toArray, List.set_cons_zero, List.set_cons_succ]
    refine wpAnyH_take (i := 5) (oi := ?oixz5) (v := undef) ?hixz5 (by kernel_rfl) (by kernel_rfl) (by kernel_rfl) ?hQxz5 ?hyxz5 HS ?restxz5
    case hixz5 => simp only [List.getElem?_toArray, List.getElem?_cons_succ, List.getElem?_cons_zero]; exact rfl
    case hQxz5 => exact fun _ _ _ h => h
    case hyxz5 =>
      refine Or.inr ⟨by rfl, rfl⟩
    try simp only [Act.put, List.setIfInBounds_toArray, List.set_cons_zero, List.set_cons_succ]
    refine wpAnyH_take (i := 6) (oi := ?oixz6) (v := ?vxz6) ?hixz6 (by kernel_rfl) (by kernel_rfl) (by kernel_rfl) ?hQxz6 ?hyxz6 HS ?restxz6
    case hixz6 => simp only [List.getElem?_toArray, List.getElem?_cons_succ, List.getElem?_cons_zero]; exact rfl
    case hQxz6 => exact fun _ _ _ h => h
    case hyxz6 =>
      refine Or.inl ⟨by rfl, ?_⟩
      intro wS hSw
      go_simp
      try with_reducible rfl
    try simp only [Act.put, List.setIfInBounds_toArray, List.set_cons_zero, List.set_cons_succ]
    refine wpAnyH_take (i := 7) (oi := ?oixz7) (v := ?vxz7) ?hixz7 (by kernel_rfl) (by kernel_rfl) (by kernel_rfl) ?hQxz7 ?hyxz7 HS ?restxz7
    case hixz7 => simp only [List.getElem?_toArray, List.getElem?_cons_succ, List.getElem?_cons_zero]; exact rfl
    case hQxz7 => exact fun _ _ _ h => h
    case hyxz7 =>
      refine Or.inl ⟨by rfl, ?_⟩
      intro wS hSw
      go_simp
      try with_reducible rfl
    try simp only [Act.put, List.setIfInBounds_toArray, List.set_cons_zero, List.set_cons_succ]
    refine wpAnyH_take (i := 8) (oi := ?oixz8) (v := ?vxz8) ?hixz8 (by kernel_rfl) (by kernel_rfl) (by kernel_rfl) ?hQxz8 ?hyxz8 HS ?restxz8
    case hixz8 => simp only [List.getElem?_toArray, List.getElem?_cons_succ, List.getElem?_cons_zero]; exact rfl
    case hQxz8 => exact fun _ _ _ h => h
    case hyxz8 =>
      refine Or.inl ⟨by rfl, ?_⟩
      intro wS hSw
      go_simp
      try with_reducible rfl
    try simp only [Act.put, List.setIfInBounds_toArray, List.set_cons_zero, List.set_cons_succ]
    refine wpAnyH_take (i := 9) (oi := ?oixz9) (v := ?vxz9) ?hixz9 (by kernel_rfl) (by kernel_rfl) (by kernel_rfl) ?hQxz9 ?hyxz9 HS ?restxz9
    case hixz9 => simp only [List.getElem?_toArray, List.getElem?_cons_succ, List.getElem?_cons_zero]; exact rfl
    case hQxz9 => exact fun _ _ _ h => h
    case hyxz9 =>
      refine Or.inl ⟨by rfl, ?_⟩
      intro wS hSw
      go_simp
      try with_reducible rfl
    try simp only [Act.put, List.setIfInBounds_toArray, List.set_cons_zero, List.set_cons_succ]
    refine wpAnyH_take (i := 10) (oi := ?oixz10) (v := ?vxz10) ?hixz10 (by kernel_rfl) (by kernel_rfl) (by kernel_rfl) ?hQxz10 ?hyxz10 HS ?restxz10
    case hixz10 => simp only [List.getElem?_toArray, List.getElem?_cons_succ, List.getElem?_cons_zero]; exact rfl
    case hQxz10 => exact fun _ _ _ h => h
    case hyxz10 =>
      refine Or.inl ⟨by rfl, ?_⟩
      intro wS hSw
      go_simp
      try with_reducible rfl
    try simp only [Act.put, List.setIfInBounds_toArray, List.set_cons_zero, List.set_cons_succ]
    refine wpAnyH_take (i := 11) (oi := ?oixz11) (v := ?vxz11) ?hixz11 (by kernel_rfl) (by kernel_rfl) (by kernel_rfl) ?hQxz11 ?hyxz11 HS ?restxz11
    case hixz11 => simp only [List.getElem?_toArray, List.getElem?_cons_succ, List.getElem?_cons_zero]; exact rfl
    case hQxz11 => exact fun _ _ _ h => h
    case hyxz11 =>
      refine Or.inl ⟨by rfl, ?_⟩
      intro wS hSw
      go_simp
      try with_reducible rfl
    try simp only [Act.put, List.setIfInBounds_toArray, List.set_cons_zero, List.set_cons_succ]
    refine wpAnyH_take (i := 12) (oi := ?oixz12) (v := ?vxz12) ?hixz12 (by kernel_rfl) (by kernel_rfl) (by kernel_rfl) ?hQxz12 ?hyxz12 HS ?restxz12
    case hixz12 => simp only [List.getElem?_toArray, List.getElem?_cons_succ, List.getElem?_cons_zero]; exact rfl
    case hQxz12 => exact fun _ _ _ h => h
    case hyxz12 =>
      refine Or.inl ⟨by rfl, ?_⟩
      intro wS hSw
      go_simp
      try with_reducible rfl
    try simp only [Act.put, List.setIfInBounds_toArray, List.set_cons_zero, List.set_cons_succ]
    refine wpAnyH_take (i := 13) (oi := ?oixz13) (v := ?vxz13) ?hixz13 (by kernel_rfl) (by kernel_rfl) (by kernel_rfl) ?hQxz13 ?hyxz13 HS ?restxz13
    case hixz13 => simp only [List.getElem?_toArray, List.getElem?_cons_succ, List.getElem?_cons_zero]; exact rfl
    case hQxz13 => exact fun _ _ _ h => h
    case hyxz13 =>
      refine Or.inl ⟨by rfl, ?_⟩
      intro wS hSw
      go_simp
      try with_reducible rfl
    try simp only [Act.put, List.setIfInBounds_toArray, List.set_cons_zero, List.set_cons_succ]
    refine wpAnyH_take (i := 14) (oi := ?oixz14) (v := ?vxz14) ?hixz14 (by kernel_rfl) (by kernel_rfl) (by kernel_rfl) ?hQxz14 ?hyxz14 HS ?restxz14
    case hixz14 => simp only [List.getElem?_toArray, List.getElem?_cons_succ, List.getElem?_cons_zero]; exact rfl
    case hQxz14 => exact fun _ _ _ h => h
    case hyxz14 =>
      refine Or.inl ⟨by rfl, ?_⟩
      intro wS hSw
      go_simp
      try with_reducible rfl
    try simp only [Act.put, List.setIfInBounds_toArray, List.set_cons_zero, List.set_cons_succ]
    refine wpAnyH_take (i := 15) (oi := ?oixz15) (v := ?vxz15) ?hixz15 (by kernel_rfl) (by kernel_rfl) (by kernel_rfl) ?hQxz15 ?hyxz15 HS ?restxz15
    case hixz15 => simp only [List.getElem?_toArray, List.getElem?_cons_succ, List.getElem?_cons_zero]; exact rfl
    case hQxz15 => exact fun _ _ _ h => h
    case hyxz15 =>
      refine Or.inl ⟨by rfl, ?_⟩
      intro wS hSw
      go_simp
      try with_reducible rfl
    try simp only [Act.put, List.setIfInBounds_toArray, List.set_cons_zero, List.set_cons_succ]
    refine wpAnyH_take (i := 16) (oi := ?oixz16) (v := ?vxz16) ?hixz16 (by kernel_rfl) (by kernel_rfl) (by kernel_rfl) ?hQxz16 ?hyxz16 HS ?restxz16
    case hixz16 => simp only [List.getElem?_toArray, List.getElem?_cons_succ, List.getElem?_cons_zero]; exact rfl
    case hQxz16 => exact fun _ _ _ h => h
    case hyxz16 =>
      refine Or.inl ⟨by rfl, ?_⟩
      intro wS hSw
      go_simp
      try with_reducible rfl
    try simp only [Act.put, List.setIfInBounds_toArray, List.set_cons_zero, List.set_cons_succ]
    refine wpAnyH_take (i := 17) (oi := ?oixz17) (v := ?vxz17) ?hixz17 (by kernel_rfl) (by kernel_rfl) (by kernel_rfl) ?hQxz17 ?hyxz17 HS ?restxz17
    case hixz17 => simp only [List.getElem?_toArray, List.getElem?_cons_succ, List.getElem?_cons_zero]; exact rfl
    case hQxz17 => exact fun _ _ _ h => h
    case hyxz17 =>
      refine Or.inl ⟨by rfl, ?_⟩
      intro wS hSw
      go_simp
      try with_reducible rfl
    try simp only [Act.put, List.setIfInBounds_toArray, List.set_cons_zero, List.set_cons_succ]
    refine wpAnyH_take (i := 18) (oi := ?oixz18) (v := ?vxz18) ?hixz18 (by kernel_rfl) (by kernel_rfl) (by kernel_rfl) ?hQxz18 ?hyxz18 HS ?restxz18
    case hixz18 => simp only [List.getElem?_toArray, List.getElem?_cons_succ, List.getElem?_cons_zero]; exact rfl
    case hQxz18 => exact fun _ _ _ h => h
    case hyxz18 =>
      refine Or.inl ⟨by rfl, ?_⟩
      intro wS hSw
      go_simp
      try with_reducible rfl
    try simp only [Act.put, List.setIfInBounds_toArray, List.set_cons_zero, List.set_cons_succ]
    refine wpAnyH_take (i := 19) (oi := ?oixz19) (v := ?vxz19) ?hixz19 (by kernel_rfl) (by kernel_rfl) (by kernel_rfl) ?hQxz19 ?hyxz19 HS ?restxz19
    case hixz19 => simp only [List.getElem?_toArray, List.getElem?_cons_succ, List.getElem?_cons_zero]; exact rfl
    case hQxz19 => exact fun _ _ _ h => h
    case hyxz19 =>
      refine Or.inl ⟨by rfl, ?_⟩
      intro wS hSw
      go_simp
      try with_reducible rfl
    try simp only [Act.put, List.setIfInBounds_toArray, List.set_cons_zero, List.set_cons_succ]
    refine wpAnyH_take (i := 20) (oi := ?oixz20) (v := ?vxz20) ?hixz20 (by kernel_rfl) (by kernel_rfl) (by kernel_rfl) ?hQxz20 ?hyxz20 HS ?restxz20
    case hixz20 => simp only [List.getElem?_toArray, List.getElem?_cons_succ, List.getElem?_cons_zero]; exact rfl
    case hQxz20 => exact fun _ _ _ h => h
    case hyxz20 =>
      refine Or.inl ⟨by rfl, ?_⟩
      intro wS hSw
      go_simp
      try with_reducible rfl
    try simp only [Act.put, List.setIfInBounds_toArray, List.set_cons_zero, List.set_cons_succ]
    refine wpAnyH_take (i := 21) (oi := ?oixz21) (v := ?vxz21) ?hixz21 (by kernel_rfl) (by kernel_rfl) (by kernel_rfl) ?hQxz21 ?hyxz21 HS ?restxz21
    case hixz21 => simp only [List.getElem?_toArray, List.getElem?_cons_succ, List.getElem?_cons_zero]; exact rfl
    case hQxz21 => exact fun _ _ _ h => h
    case hyxz21 =>
      refine Or.inl ⟨by rfl, ?_⟩
      intro wS hSw
      go_simp
      try with_reducible rfl
    try simp only [Act.put, List.setIfInBounds_toArray, List.set_cons_zero, List.set_cons_succ]
    refine wpAnyH_take (i := 23) (oi := ?oixz23) (v := ?vxz23) ?hixz23 (by kernel_rfl) (by kernel_rfl) (by kernel_rfl) ?hQxz23 ?hyxz23 HS ?restxz23
    case hixz23 => simp only [List.getElem?_toArray, List.getElem?_cons_succ, List.getElem?_cons_zero]; exact rfl
    case hQxz23 => exact fun _ _ _ h => h
    case hyxz23 =>
      refine Or.inl ⟨by rfl, ?_⟩
      intro wS hSw
      go_simp
      try with_reducible rfl
    try simp only [Act.put, List.setIfInBounds_toArray, List.set_cons_zero, List.set_cons_succ]
    refine wpAnyH_take (i := 24) (oi := ?oixz24) (v := ?vxz24) ?hixz24 (by kernel_rfl) (by kernel_rfl) (by kernel_rfl) ?hQxz24 ?hyxz24 HS ?restxz24
    case hixz24 => simp only [List.getElem?_toArray, List.getElem?_cons_succ, List.getElem?_cons_zero]; exact rfl
    case hQxz24 => exact fun _ _ _ h => h
    case hyxz24 =>
      refine Or.inl ⟨by rfl, ?_⟩
      intro wS hSw
      go_simp
      try with_reducible rfl
    try simp only [Act.put, List.setIfInBounds_toArray, List.set_cons_zero, List.set_cons_succ]
    refine wpAnyH_ready (rs := [22]) (by kernel_rfl) (by simp) ?_
    refine AllReadyH.cons (o := ?oxz22) ?hoxz22 (fun K hK => ?stepxz22) AllReadyH.nil
    case hoxz22 => simp only [List.getElem?_toArray, List.getElem?_cons_succ, List.getElem?_cons_zero]; exact rfl
    go_simp
    refine (beside_c p HP.out i HI.out w3).mono ?_
    rintro e w4 ⟨rfl, hba⟩
    have HB4 := hid (HB3.out.trans (hba.mono HB3.out.size))
    have HPB4 := hid (HPBd.out.below hba HPBd.out.lt)
    clear hba
    refine hK.out _ _ (pgB_cells HPB4.out) (fun HS => ?_)
    clear hK K
    try simp only [Act.put, List.setIfInBounds_toArray, List.set_cons_zero, List.set_cons_succ]
    refine wpAnyH_ready (rs := [25]) (by kernel_rfl) (by simp) ?_
    refine AllReadyH.cons (o := ?oxz25) ?hoxz25 (fun K hK => ?stepxz25) AllReadyH.nil
    case hoxz25 => simp only [List.getElem?_toArray, List.getElem?_cons_succ, List.getElem?_cons_zero]; exact rfl
    go_simp
    refine (rbeside_c p HP.out i HI.out w4).mono ?_
    rintro e w5 ⟨rfl, hba⟩
    have HB5 := hid (HB4.out.trans (hba.mono HB4.out.size))
    have HPB5 := hid (HPB4.out.below hba HPB4.out.lt)
    clear hba
    refine hK.out _ _ (pgB_cells HPB5.out) (fun HS => ?_)
    clear hK K
    try simp only [Act.put, List.setIfInBounds_toArray, List.set_cons_zero, List.set_cons_succ]
    refine wpAnyH_take (i := 26) (oi := ?oixz26) (v := ?vxz26) ?hixz26 (by kernel_rfl) (by kernel_rfl) (by kernel_rfl) ?hQxz26 ?hyxz26 HS ?restxz26
    case hixz26 => simp only [List.getElem?_toArray, List.getElem?_cons_succ, List.getElem?_cons_zero]; exact rfl
    case hQxz26 => exact fun _ _ _ h => h
    case hyxz26 =>
      refine Or.inl ⟨by rfl, ?_⟩
      intro wS hSw
      go_simp
      try with_reducible rfl
    try simp only [Act.put, List.setIfInBounds_toArray, List.set_cons_zero, List.set_cons_succ]
    refine wpAnyH_take (i := 27) (oi := ?oixz27) (v := ?vxz27) ?hixz27 (by kernel_rfl) (by kernel_rfl) (by kernel_rfl) ?hQxz27 ?hyxz27 HS ?restxz27
    case hixz27 => simp only [List.getElem?_toArray, List.getElem?_cons_succ, List.getElem?_cons_zero]; exact rfl
    case hQxz27 => exact fun _ _ _ h => h
    case hyxz27 =>
      refine Or.inl ⟨by rfl, ?_⟩
      intro wS hSw
      go_simp
      try with_reducible rfl
    try simp only [Act.put, List.setIfInBounds_toArray, List.set_cons_zero, List.set_cons_succ]
    refine wpAnyH_take (i := 28) (oi := ?oixz28) (v := ?vxz28) ?hixz28 (by kernel_rfl) (by kernel_rfl) (by kernel_rfl) ?hQxz28 ?hyxz28 HS ?restxz28
    case hixz28 => simp only [List.getElem?_toArray, List.getElem?_cons_succ, List.getElem?_cons_zero]; exact rfl
    case hQxz28 => exact fun _ _ _ h => h
    case hyxz28 =>
      refine Or.inl ⟨by rfl, ?_⟩
      intro wS hSw
      go_simp
      try with_reducible rfl
    try simp only [Act.put, List.setIfInBounds_toArray, List.set_cons_zero, List.set_cons_succ]
    refine wpAnyH_done (by kernel_rfl) ?_ _
    go_wp2
    go_ret
    exact ⟨rfl, HB5.out⟩
  · have hz1 : decide (0 < h) = true := decide_eq_true (Nat.pos_of_ne_zero hz)
    rw [hz1]
    clear hz hz1
    as_aux_lemma =>
    go_wp2_with fail
    refine wp_region_held_drew (S := fun wx => wx.cell? ⟨w.heap.size, 0, none⟩ = some (.int .i64 p.k.t) ∧ wx.cell? ⟨w.heap.size, 1, none⟩ = some (.int .i64 p.k.c) ∧ wx.cell? ⟨w.heap.size, 2, none⟩ = some (.int .i64 p.k.e) ∧ wx.cell? ⟨w.heap.size, 3, none⟩ = some (.int .i64 p.id) ∧ wx.cell? ⟨w.heap.size, 4, none⟩ = some (.int .i64 p.ver)) (by kernel_rfl) (pgB_cells HPBd.out) (fun HS => ?_)
    generalize w1.drew = w3 at *
    refine wpAnyH_take (i := 0) (oi := ?oixh0) (v := ?vxh0) ?hixh0 (by kernel_rfl) (by kernel_rfl) (by kernel_rfl) ?hQxh0 ?hyxh0 HS ?restxh0
    case hixh0 => simp only [List.getElem?_toArray, List.getElem?_cons_zero]; exact rfl
    case hQxh0 => exact fun _ _ _ h => h
    case hyxh0 =>
      refine Or.inl ⟨by rfl, ?_⟩
      intro wS hSw
      go_simp
      try with_reducible rfl
    try simp only [Act.put, List.setIfInBounds_toArray, List.set_cons_zero, List.set_cons_succ]
    refine wpAnyH_take (i := 1) (oi := ?oixh1) (v := ?vxh1) ?hixh1 (by kernel_rfl) (by kernel_rfl) (by kernel_rfl) ?hQxh1 ?hyxh1 HS ?restxh1
    case hixh1 => simp only [List.getElem?_toArray, List.getElem?_cons_succ, List.getElem?_cons_zero]; exact rfl
    case hQxh1 => exact fun _ _ _ h => h
    case hyxh1 =>
      refine Or.inl ⟨by rfl, ?_⟩
      intro wS hSw
      go_simp
      try with_reducible rfl
    try simp only [Act.put, List.setIfInBounds_toArray, List.set_cons_zero, List.set_cons_succ]
    refine wpAnyH_take (i := 2) (oi := ?oixh2) (v := ?vxh2) ?hixh2 (by kernel_rfl) (by kernel_rfl) (by kernel_rfl) ?hQxh2 ?hyxh2 HS ?restxh2
    case hixh2 => simp only [List.getElem?_toArray, List.getElem?_cons_succ, List.getElem?_cons_zero]; exact rfl
    case hQxh2 => exact fun _ _ _ h => h
    case hyxh2 =>
      refine Or.inl ⟨by rfl, ?_⟩
      intro wS hSw
      go_simp
      try with_reducible rfl
    try simp only [Act.put, List.setIfInBounds_toArray, List.set_cons_zero, List.set_cons_succ]
    refine wpAnyH_take (i := 3) (oi := ?oixh3) (v := ?vxh3) ?hixh3 (by kernel_rfl) (by kernel_rfl) (by kernel_rfl) ?hQxh3 ?hyxh3 HS ?restxh3
    case hixh3 => simp only [List.getElem?_toArray, List.getElem?_cons_succ, List.getElem?_cons_zero]; exact rfl
    case hQxh3 => exact fun _ _ _ h => h
    case hyxh3 =>
      refine Or.inl ⟨by rfl, ?_⟩
      intro wS hSw
      go_simp
      try with_reducible rfl
    try simp only [Act.put, List.setIfInBounds_toArray, List.set_cons_zero, List.set_cons_succ]
    refine wpAnyH_take (i := 4) (oi := ?oixh4) (v := undef) ?hixh4 (by kernel_rfl) (by kernel_rfl) (by kernel_rfl) ?hQxh4 ?hyxh4 HS ?restxh4
    case hixh4 => simp only [List.getElem?_toArray, List.getElem?_cons_succ, List.getElem?_cons_zero]; exact rfl
    case hQxh4 => exact fun _ _ _ h => h
    case hyxh4 =>
      refine Or.inr ⟨by rfl, rfl⟩
    try simp only [Act.put, List.setIfInBounds_toArray, List.set_cons_zero, List.set_cons_succ]
    refine wpAnyH_take (i := 5) (oi := ?oixh5) (v := undef) ?hixh5 (by kernel_rfl) (by kernel_rfl) (by kernel_rfl) ?hQxh5 ?hyxh5 HS ?restxh5
    case hixh5 => simp only [List.getElem?_toArray, List.getElem?_cons_succ, List.getElem?_cons_zero]; exact rfl
    case hQxh5 => exact fun _ _ _ h => h
    case hyxh5 =>
      refine Or.inr ⟨by rfl, rfl⟩
    try simp only [Act.put, List.setIfInBounds_toArray, List.set_cons_zero, List.set_cons_succ]
    refine wpAnyH_take (i := 6) (oi := ?oixh6) (v := ?vxh6) ?hixh6 (by kernel_rfl) (by kernel_rfl) (by kernel_rfl) ?hQxh6 ?hyxh6 HS ?restxh6
    case hixh6 => simp only [List.getElem?_toArray, List.getElem?_cons_succ, List.getElem?_cons_zero]; exact rfl
    case hQxh6 => exact fun _ _ _ h => h
    case hyxh6 =>
      refine Or.inl ⟨by rfl, ?_⟩
      intro wS hSw
      go_simp
      try with_reducible rfl
    try simp only [Act.put, List.setIfInBounds_toArray, List.set_cons_zero, List.set_cons_succ]
    refine wpAnyH_take (i := 7) (oi := ?oixh7) (v := ?vxh7) ?hixh7 (by kernel_rfl) (by kernel_rfl) (by kernel_rfl) ?hQxh7 ?hyxh7 HS ?restxh7
    case hixh7 => simp only [List.getElem?_toArray, List.getElem?_cons_succ, List.getElem?_cons_zero]; exact rfl
    case hQxh7 => exact fun _ _ _ h => h
    case hyxh7 =>
      refine Or.inl ⟨by rfl, ?_⟩
      intro wS hSw
      go_simp
      try with_reducible rfl
    try simp only [Act.put, List.setIfInBounds_toArray, List.set_cons_zero, List.set_cons_succ]
    refine wpAnyH_take (i := 8) (oi := ?oixh8) (v := ?vxh8) ?hixh8 (by kernel_rfl) (by kernel_rfl) (by kernel_rfl) ?hQxh8 ?hyxh8 HS ?restxh8
    case hixh8 => simp only [List.getElem?_toArray, List.getElem?_cons_succ, List.getElem?_cons_zero]; exact rfl
    case hQxh8 => exact fun _ _ _ h => h
    case hyxh8 =>
      refine Or.inl ⟨by rfl, ?_⟩
      intro wS hSw
      go_simp
      try with_reducible rfl
    try simp only [Act.put, List.setIfInBounds_toArray, List.set_cons_zero, List.set_cons_succ]
    refine wpAnyH_take (i := 9) (oi := ?oixh9) (v := ?vxh9) ?hixh9 (by kernel_rfl) (by kernel_rfl) (by kernel_rfl) ?hQxh9 ?hyxh9 HS ?restxh9
    case hixh9 => simp only [List.getElem?_toArray, List.getElem?_cons_succ, List.getElem?_cons_zero]; exact rfl
    case hQxh9 => exact fun _ _ _ h => h
    case hyxh9 =>
      refine Or.inl ⟨by rfl, ?_⟩
      intro wS hSw
      go_simp
      try with_reducible rfl
    try simp only [Act.put, List.setIfInBounds_toArray, List.set_cons_zero, List.set_cons_succ]
    refine wpAnyH_take (i := 10) (oi := ?oixh10) (v := ?vxh10) ?hixh10 (by kernel_rfl) (by kernel_rfl) (by kernel_rfl) ?hQxh10 ?hyxh10 HS ?restxh10
    case hixh10 => simp only [List.getElem?_toArray, List.getElem?_cons_succ, List.getElem?_cons_zero]; exact rfl
    case hQxh10 => exact fun _ _ _ h => h
    case hyxh10 =>
      refine Or.inl ⟨by rfl, ?_⟩
      intro wS hSw
      go_simp
      try with_reducible rfl
    try simp only [Act.put, List.setIfInBounds_toArray, List.set_cons_zero, List.set_cons_succ]
    refine wpAnyH_take (i := 11) (oi := ?oixh11) (v := ?vxh11) ?hixh11 (by kernel_rfl) (by kernel_rfl) (by kernel_rfl) ?hQxh11 ?hyxh11 HS ?restxh11
    case hixh11 => simp only [List.getElem?_toArray, List.getElem?_cons_succ, List.getElem?_cons_zero]; exact rfl
    case hQxh11 => exact fun _ _ _ h => h
    case hyxh11 =>
      refine Or.inl ⟨by rfl, ?_⟩
      intro wS hSw
      go_simp
      try with_reducible rfl
    try simp only [Act.put, List.setIfInBounds_toArray, List.set_cons_zero, List.set_cons_succ]
    refine wpAnyH_take (i := 12) (oi := ?oixh12) (v := ?vxh12) ?hixh12 (by kernel_rfl) (by kernel_rfl) (by kernel_rfl) ?hQxh12 ?hyxh12 HS ?restxh12
    case hixh12 => simp only [List.getElem?_toArray, List.getElem?_cons_succ, List.getElem?_cons_zero]; exact rfl
    case hQxh12 => exact fun _ _ _ h => h
    case hyxh12 =>
      refine Or.inl ⟨by rfl, ?_⟩
      intro wS hSw
      go_simp
      try with_reducible rfl
    try simp only [Act.put, List.setIfInBounds_toArray, List.set_cons_zero, List.set_cons_succ]
    refine wpAnyH_take (i := 13) (oi := ?oixh13) (v := ?vxh13) ?hixh13 (by kernel_rfl) (by kernel_rfl) (by kernel_rfl) ?hQxh13 ?hyxh13 HS ?restxh13
    case hixh13 => simp only [List.getElem?_toArray, List.getElem?_cons_succ, List.getElem?_cons_zero]; exact rfl
    case hQxh13 => exact fun _ _ _ h => h
    case hyxh13 =>
      refine Or.inl ⟨by rfl, ?_⟩
      intro wS hSw
      go_simp
      try with_reducible rfl
    try simp only [Act.put, List.setIfInBounds_toArray, List.set_cons_zero, List.set_cons_succ]
    refine wpAnyH_take (i := 14) (oi := ?oixh14) (v := ?vxh14) ?hixh14 (by kernel_rfl) (by kernel_rfl) (by kernel_rfl) ?hQxh14 ?hyxh14 HS ?restxh14
    case hixh14 => simp only [List.getElem?_toArray, List.getElem?_cons_succ, List.getElem?_cons_zero]; exact rfl
    case hQxh14 => exact fun _ _ _ h => h
    case hyxh14 =>
      refine Or.inl ⟨by rfl, ?_⟩
      intro wS hSw
      go_simp
      try with_reducible rfl
    try simp only [Act.put, List.setIfInBounds_toArray, List.set_cons_zero, List.set_cons_succ]
    refine wpAnyH_take (i := 15) (oi := ?oixh15) (v := undef) ?hixh15 (by kernel_rfl) (by kernel_rfl) (by kernel_rfl) ?hQxh15 ?hyxh15 HS ?restxh15
    case hixh15 => simp only [List.getElem?_toArray, List.getElem?_cons_succ, List.getElem?_cons_zero]; exact rfl
    case hQxh15 => exact fun _ _ _ h => h
    case hyxh15 =>
      refine Or.inr ⟨by rfl, rfl⟩
    try simp only [Act.put, List.setIfInBounds_toArray, List.set_cons_zero, List.set_cons_succ]
    refine wpAnyH_take (i := 16) (oi := ?oixh16) (v := undef) ?hixh16 (by kernel_rfl) (by kernel_rfl) (by kernel_rfl) ?hQxh16 ?hyxh16 HS ?restxh16
    case hixh16 => simp only [List.getElem?_toArray, List.getElem?_cons_succ, List.getElem?_cons_zero]; exact rfl
    case hQxh16 => exact fun _ _ _ h => h
    case hyxh16 =>
      refine Or.inr ⟨by rfl, rfl⟩
    try simp only [Act.put, List.setIfInBounds_toArray, List.set_cons_zero, List.set_cons_succ]
    refine wpAnyH_take (i := 17) (oi := ?oixh17) (v := ?vxh17) ?hixh17 (by kernel_rfl) (by kernel_rfl) (by kernel_rfl) ?hQxh17 ?hyxh17 HS ?restxh17
    case hixh17 => simp only [List.getElem?_toArray, List.getElem?_cons_succ, List.getElem?_cons_zero]; exact rfl
    case hQxh17 => exact fun _ _ _ h => h
    case hyxh17 =>
      refine Or.inl ⟨by rfl, ?_⟩
      intro wS hSw
      go_simp
      try with_reducible rfl
    try simp only [Act.put, List.setIfInBounds_toArray, List.set_cons_zero, List.set_cons_succ]
    refine wpAnyH_take (i := 18) (oi := ?oixh18) (v := ?vxh18) ?hixh18 (by kernel_rfl) (by kernel_rfl) (by kernel_rfl) ?hQxh18 ?hyxh18 HS ?restxh18
    case hixh18 => simp only [List.getElem?_toArray, List.getElem?_cons_succ, List.getElem?_cons_zero]; exact rfl
    case hQxh18 => exact fun _ _ _ h => h
    case hyxh18 =>
      refine Or.inl ⟨by rfl, ?_⟩
      intro wS hSw
      go_simp
      try with_reducible rfl
    try simp only [Act.put, List.setIfInBounds_toArray, List.set_cons_zero, List.set_cons_succ]
    refine wpAnyH_take (i := 19) (oi := ?oixh19) (v := ?vxh19) ?hixh19 (by kernel_rfl) (by kernel_rfl) (by kernel_rfl) ?hQxh19 ?hyxh19 HS ?restxh19
    case hixh19 => simp only [List.getElem?_toArray, List.getElem?_cons_succ, List.getElem?_cons_zero]; exact rfl
    case hQxh19 => exact fun _ _ _ h => h
    case hyxh19 =>
      refine Or.inl ⟨by rfl, ?_⟩
      intro wS hSw
      go_simp
      try with_reducible rfl
    try simp only [Act.put, List.setIfInBounds_toArray, List.set_cons_zero, List.set_cons_succ]
    refine wpAnyH_take (i := 20) (oi := ?oixh20) (v := ?vxh20) ?hixh20 (by kernel_rfl) (by kernel_rfl) (by kernel_rfl) ?hQxh20 ?hyxh20 HS ?restxh20
    case hixh20 => simp only [List.getElem?_toArray, List.getElem?_cons_succ, List.getElem?_cons_zero]; exact rfl
    case hQxh20 => exact fun _ _ _ h => h
    case hyxh20 =>
      refine Or.inl ⟨by rfl, ?_⟩
      intro wS hSw
      go_simp
      try with_reducible rfl
    try simp only [Act.put, List.setIfInBounds_toArray, List.set_cons_zero, List.set_cons_succ]
    refine wpAnyH_take (i := 21) (oi := ?oixh21) (v := ?vxh21) ?hixh21 (by kernel_rfl) (by kernel_rfl) (by kernel_rfl) ?hQxh21 ?hyxh21 HS ?restxh21
    case hixh21 => simp only [List.getElem?_toArray, List.getElem?_cons_succ, List.getElem?_cons_zero]; exact rfl
    case hQxh21 => exact fun _ _ _ h => h
    case hyxh21 =>
      refine Or.inl ⟨by rfl, ?_⟩
      intro wS hSw
      go_simp
      try with_reducible rfl
    try simp only [Act.put, List.setIfInBounds_toArray, List.set_cons_zero, List.set_cons_succ]
    refine wpAnyH_take (i := 23) (oi := ?oixh23) (v := ?vxh23) ?hixh23 (by kernel_rfl) (by kernel_rfl) (by kernel_rfl) ?hQxh23 ?hyxh23 HS ?restxh23
    case hixh23 => simp only [List.getElem?_toArray, List.getElem?_cons_succ, List.getElem?_cons_zero]; exact rfl
    case hQxh23 => exact fun _ _ _ h => h
    case hyxh23 =>
      refine Or.inl ⟨by rfl, ?_⟩
      intro wS hSw
      go_simp
      try with_reducible rfl
    try simp only [Act.put, List.setIfInBounds_toArray, List.set_cons_zero, List.set_cons_succ]
    refine wpAnyH_take (i := 24) (oi := ?oixh24) (v := ?vxh24) ?hixh24 (by kernel_rfl) (by kernel_rfl) (by kernel_rfl) ?hQxh24 ?hyxh24 HS ?restxh24
    case hixh24 => simp only [List.getElem?_toArray, List.getElem?_cons_succ, List.getElem?_cons_zero]; exact rfl
    case hQxh24 => exact fun _ _ _ h => h
    case hyxh24 =>
      refine Or.inl ⟨by rfl, ?_⟩
      intro wS hSw
      go_simp
      try with_reducible rfl
    try simp only [Act.put, List.setIfInBounds_toArray, List.set_cons_zero, List.set_cons_succ]
    refine wpAnyH_ready (rs := [22]) (by kernel_rfl) (by simp) ?_
    refine AllReadyH.cons (o := ?oxh22) ?hoxh22 (fun K hK => ?stepxh22) AllReadyH.nil
    case hoxh22 => simp only [List.getElem?_toArray, List.getElem?_cons_succ, List.getElem?_cons_zero]; exact rfl
    go_simp
    refine (beside_c p HP.out i HI.out w3).mono ?_
    rintro e w4 ⟨rfl, hba⟩
    have HB4 := hid (HB3.out.trans (hba.mono HB3.out.size))
    have HPB4 := hid (HPBd.out.below hba HPBd.out.lt)
    clear hba
    refine hK.out _ _ (pgB_cells HPB4.out) (fun HS => ?_)
    clear hK K
    try simp only [Act.put, List.setIfInBounds_toArray, List.set_cons_zero, List.set_cons_succ]
    refine wpAnyH_ready (rs := [25]) (by kernel_rfl) (by simp) ?_
    refine AllReadyH.cons (o := ?oxh25) ?hoxh25 (fun K hK => ?stepxh25) AllReadyH.nil
    case hoxh25 => simp only [List.getElem?_toArray, List.getElem?_cons_succ, List.getElem?_cons_zero]; exact rfl
    go_simp
    refine (rbeside_c p HP.out i HI.out w4).mono ?_
    rintro e w5 ⟨rfl, hba⟩
    have HB5 := hid (HB4.out.trans (hba.mono HB4.out.size))
    have HPB5 := hid (HPB4.out.below hba HPB4.out.lt)
    clear hba
    refine hK.out _ _ (pgB_cells HPB5.out) (fun HS => ?_)
    clear hK K
    try simp only [Act.put, List.setIfInBounds_toArray, List.set_cons_zero, List.set_cons_succ]
    refine wpAnyH_take (i := 26) (oi := ?oixh26) (v := ?vxh26) ?hixh26 (by kernel_rfl) (by kernel_rfl) (by kernel_rfl) ?hQxh26 ?hyxh26 HS ?restxh26
    case hixh26 => simp only [List.getElem?_toArray, List.getElem?_cons_succ, List.getElem?_cons_zero]; exact rfl
    case hQxh26 => exact fun _ _ _ h => h
    case hyxh26 =>
      refine Or.inl ⟨by rfl, ?_⟩
      intro wS hSw
      go_simp
      try with_reducible rfl
    try simp only [Act.put, List.setIfInBounds_toArray, List.set_cons_zero, List.set_cons_succ]
    refine wpAnyH_take (i := 27) (oi := ?oixh27) (v := ?vxh27) ?hixh27 (by kernel_rfl) (by kernel_rfl) (by kernel_rfl) ?hQxh27 ?hyxh27 HS ?restxh27
    case hixh27 => simp only [List.getElem?_toArray, List.getElem?_cons_succ, List.getElem?_cons_zero]; exact rfl
    case hQxh27 => exact fun _ _ _ h => h
    case hyxh27 =>
      refine Or.inl ⟨by rfl, ?_⟩
      intro wS hSw
      go_simp
      try with_reducible rfl
    try simp only [Act.put, List.setIfInBounds_toArray, List.set_cons_zero, List.set_cons_succ]
    refine wpAnyH_take (i := 28) (oi := ?oixh28) (v := ?vxh28) ?hixh28 (by kernel_rfl) (by kernel_rfl) (by kernel_rfl) ?hQxh28 ?hyxh28 HS ?restxh28
    case hixh28 => simp only [List.getElem?_toArray, List.getElem?_cons_succ, List.getElem?_cons_zero]; exact rfl
    case hQxh28 => exact fun _ _ _ h => h
    case hyxh28 =>
      refine Or.inl ⟨by rfl, ?_⟩
      intro wS hSw
      go_simp
      try with_reducible rfl
    try simp only [Act.put, List.setIfInBounds_toArray, List.set_cons_zero, List.set_cons_succ]
    refine wpAnyH_done (by kernel_rfl) ?_ _
    go_wp2
    go_ret
    exact ⟨rfl, HB5.out⟩
end Go.Proofs.Ytbkcjpogafkoeaa
