/- What strongroomref09.Same returns. Nothing is assumed. -/
import Derived.Test.YtdkbpjkoiegflaaGreatStWh
namespace Go.Proofs.YtdkbpjkoiegflaaGreat
open Go.RowKit

set_option maxRecDepth 100000 in
theorem eq_blob (a b : Bb) (wx : World) : (Op.equalIn 10000 90 (.agg #[.string (str (a).nm), .int .i64 (a).k.t, .int .i64 (a).k.c, .int .i64 (a).k.e, .int .i64 (a).b, .int .i64 (a).p.k.t, .int .i64 (a).p.k.c, .int .i64 (a).p.k.e, .int .i64 (a).p.id, .int .i64 (a).p.ver, .int .i64 (a).sz]) (.agg #[.string (str (b).nm), .int .i64 (b).k.t, .int .i64 (b).k.c, .int .i64 (b).k.e, .int .i64 (b).b, .int .i64 (b).p.k.t, .int .i64 (b).p.k.c, .int .i64 (b).p.k.e, .int .i64 (b).p.id, .int .i64 (b).p.ver, .int .i64 (b).sz])).run Tryz.prog wx = .ok (decide (a = b)) wx := by
  obtain ⟨n1, ⟨a1, a2, a3⟩, a4, ⟨⟨a5, a6, a7⟩, a8, a9⟩, a10⟩ := a
  obtain ⟨n2, ⟨b1, b2, b3⟩, b4, ⟨⟨b5, b6, b7⟩, b8, b9⟩, b10⟩ := b
  go_simp
  rw [str_list, str_list]
  by_cases h0 : n1 = n2
  · subst h0
    by_cases h1 : a1 = b1
    · subst h1
      by_cases h2 : a2 = b2
      · subst h2
        by_cases h3 : a3 = b3
        · subst h3
          by_cases h4 : a4 = b4
          · subst h4
            by_cases h5 : a5 = b5
            · subst h5
              by_cases h6 : a6 = b6
              · subst h6
                by_cases h7 : a7 = b7
                · subst h7
                  by_cases h8 : a8 = b8
                  · subst h8
                    by_cases h9 : a9 = b9
                    · subst h9
                      by_cases h10 : a10 = b10
                      · subst h10
                        simp
                      · simp [h10]
                    · simp [h9]
                  · simp [h8]
                · simp [h7]
              · simp [h6]
            · simp [h5]
          · simp [h4]
        · simp [h3]
      · simp [h2]
    · simp [h1]
  · simp [h0]
/-- A blob of a row loaded. -/
theorem exec_rowB {w : World} {b off : Nat} {op : Oper} {a : Act} {y : Bb} (x : Operand) (ho : op.op = .load 90 x) (hx : a.eval x = .pointer (some ⟨b, off, none⟩)) (h : w.rangeAt b off y.cells) : (execOp a.eval op).run Tryz.prog w = .ok (.value (.agg #[.string (str (y).nm), .int .i64 (y).k.t, .int .i64 (y).k.c, .int .i64 (y).k.e, .int .i64 (y).b, .int .i64 (y).p.k.t, .int .i64 (y).p.k.c, .int .i64 (y).p.k.e, .int .i64 (y).p.id, .int .i64 (y).p.ver, .int .i64 (y).sz])) w :=
  exec_load_mid 90 x ho b off hx y.cells _ h Tryz.underlying90 rfl Tryz.sizeBlob
theorem rangeAt_heap {w w' : World} {b off : Nat} {l : List Value} (h : w.rangeAt b off l) (hk : w'.heap[b]? = w.heap[b]?) : w'.rangeAt b off l := rangeAt_keep h hk
theorem bb_take {a b : List Bb} {j : Nat} (ha : j < a.length) (hb : j < b.length) (h : a.take j = b.take j) : (a[j] = b[j] → a.take (j + 1) = b.take (j + 1)) ∧ (a[j] ≠ b[j] → a ≠ b) := by
  refine ⟨fun e => ?_, fun e e2 => e (by subst e2; rfl)⟩
  rw [List.take_add_one, List.take_add_one, List.getElem?_eq_getElem ha, List.getElem?_eq_getElem hb, h, e]
theorem meas_jb {k m j : Nat} (h : k = m - j) (hj : j < m) : m - (j + 1) < k := by omega
set_option maxRecDepth 100000 in
set_option maxHeartbeats 16000000 in
theorem ssame_c {w : World} {ba bb c d : Nat} {A B : Option Addr} {a b : List Bb} (ha : BRow 90 w ba A c a) (hb : BRow 90 w bb B d b) (hn : a.length ≤ 1000000) :
    Calls Tryz.prog 29 #[.slice A a.length c, .slice B b.length d] w fun e w' => e = .returned (.bool (decide (a = b))) ∧ Below w.heap.size w w' := by
  have HA := hid ha
  have HB := hid hb
  have HN := hid hn
  clear ha hb hn
  obtain ⟨n, hla⟩ : ∃ n, a.length = n := ⟨_, rfl⟩
  obtain ⟨m, hlb⟩ : ∃ m, b.length = m := ⟨_, rfl⟩
  rw [hla, hlb]
  by_cases hl : n = m
  · subst hl
    have e1 : ((n : Int) != (n : Int)) = false := by simp
    have HL := hid (And.intro hla hlb)
    clear hla hlb
    go_enter Tryz.func29, Tryz.ntmps29
    go_wp2_with fail
    clear e1
    go_loopg [13] n (fun kk iv wr => ∃ j : Nat, iv = .int .i64 (j : Int) ∧ Hid (kk = n - j) ∧ Hid (j ≤ n) ∧ Hid (Below w.heap.size w wr) ∧ Hid (a.take j = b.take j))
    case atStart => exact ⟨0, rfl, hid rfl, hid (Nat.zero_le _), hid (Below.refl _ _), hid rfl⟩
    case round =>
      obtain ⟨j, rfl, hgk, hj, hBW, hT⟩ := hrel
      rename World => wr
      rcases Nat.lt_or_ge j n with hlt | hge
      · have hla2 : j < a.length := by rw [HL.out.1]; exact hlt
        have hlb2 : j < b.length := by rw [HL.out.2]; exact hlt
        have j1 : (0 : Int) ≤ (j : Int) := by omega
        have j2 : (j : Int) < (n : Int) := by omega
        have j3 : decide ((j : Int) < (n : Int)) = true := by simpa using hlt
        have wj : wrap64 ((j : Int) + 1) = ((j + 1 : Nat) : Int) := by have := HN.out; have := HL.out; unfold wrap64; omega
        have HJ := hid hlt
        obtain ⟨ga, hAe, hga, hra⟩ := HA.out.elem hla2
        obtain ⟨gb, hBe, hgb, hrb⟩ := HB.out.elem hlb2
        have HSP := hid (bb_take hla2 hlb2 hT.out)
        generalize a[j] = x at *
        generalize b[j] = y at *
        have hra1 := rangeAt_heap hra (hBW.out.block ga hga)
        have hrb1 := rangeAt_heap hrb (hBW.out.block gb hgb)
        subst hAe hBe
        clear hlt hla2 hlb2 hra hrb
        obtain ⟨q, hq⟩ : ∃ q, q = decide (x = y) := ⟨_, rfl⟩
        have HEQ : Hid (∀ wx : World, (Op.equalIn 10000 90 (.agg #[.string (str (x).nm), .int .i64 (x).k.t, .int .i64 (x).k.c, .int .i64 (x).k.e, .int .i64 (x).b, .int .i64 (x).p.k.t, .int .i64 (x).p.k.c, .int .i64 (x).p.k.e, .int .i64 (x).p.id, .int .i64 (x).p.ver, .int .i64 (x).sz]) (.agg #[.string (str (y).nm), .int .i64 (y).k.t, .int .i64 (y).k.c, .int .i64 (y).k.e, .int .i64 (y).b, .int .i64 (y).p.k.t, .int .i64 (y).p.k.c, .int .i64 (y).p.k.e, .int .i64 (y).p.id, .int .i64 (y).p.ver, .int .i64 (y).sz])).run Tryz.prog wx = .ok q wx) := hid (fun wx => by rw [hq]; exact eq_blob x y wx)
        have HQ := hid hq
        clear hq
        go_wp2_with fail
        refine wp_region_held_drew (S := fun wx => wx.rangeAt ga (j * 11) x.cells ∧ wx.rangeAt gb (j * 11) y.cells) (by kernel_rfl) ⟨rangeAt_heap hra1 rfl, rangeAt_heap hrb1 rfl⟩ (fun HS => ?_)
        refine wpAnyH_take (i := 0) (oi := ?oi0) (v := ?v0) ?hi0 (by kernel_rfl) (by kernel_rfl) (by kernel_rfl) ?hQ0 ?hy0 HS ?rest0
        case hi0 => simp only [List.getElem?_toArray, List.getElem?_cons_zero]; exact rfl
        case hQ0 => exact fun _ _ _ h => h
        case hy0 =>
          refine Or.inl ⟨by rfl, ?_⟩
          intro wS hSw
          go_simp
          try with_reducible rfl
        try simp only [Act.put, List.setIfInBounds_toArray, List.set_cons_zero, List.set_cons_succ]
        refine wpAnyH_take (i := 1) (oi := ?oi1) (v := ?v1) ?hi1 (by kernel_rfl) (by kernel_rfl) (by kernel_rfl) ?hQ1 ?hy1 HS ?rest1
        case hi1 => simp only [List.getElem?_toArray, List.getElem?_cons_succ, List.getElem?_cons_zero]; exact rfl
        case hQ1 => exact fun _ _ _ h => h
        case hy1 =>
          refine Or.inl ⟨by rfl, ?_⟩
          intro wS hSw
          go_simp
          try with_reducible rfl
        try simp only [Act.put, List.setIfInBounds_toArray, List.set_cons_zero, List.set_cons_succ]
        refine wpAnyH_take (i := 2) (oi := ?oi2) (v := ?v2) ?hi2 (by kernel_rfl) (by kernel_rfl) (by kernel_rfl) ?hQ2 ?hy2 HS ?rest2
        case hi2 => simp only [List.getElem?_toArray, List.getElem?_cons_succ, List.getElem?_cons_zero]; exact rfl
        case hQ2 => exact fun _ _ _ h => h
        case hy2 =>
          refine Or.inl ⟨by rfl, ?_⟩
          intro wS hSw
          go_simp
          try with_reducible rfl
        try simp only [Act.put, List.setIfInBounds_toArray, List.set_cons_zero, List.set_cons_succ]
        refine wpAnyH_take (i := 4) (oi := ?oi4) (v := ?v4) ?hi4 (by kernel_rfl) (by kernel_rfl) (by kernel_rfl) ?hQ4 ?hy4 HS ?rest4
        case hi4 => simp only [List.getElem?_toArray, List.getElem?_cons_succ, List.getElem?_cons_zero]; exact rfl
        case hQ4 => exact fun _ _ _ h => h
        case hy4 =>
          refine Or.inl ⟨by rfl, ?_⟩
          intro wS hSw
          go_simp
          try with_reducible rfl
        try simp only [Act.put, List.setIfInBounds_toArray, List.set_cons_zero, List.set_cons_succ]
        refine wpAnyH_take (i := 5) (oi := ?oi5) (v := ?v5) ?hi5 (by kernel_rfl) (by kernel_rfl) (by kernel_rfl) ?hQ5 ?hy5 HS ?rest5
        case hi5 => simp only [List.getElem?_toArray, List.getElem?_cons_succ, List.getElem?_cons_zero]; exact rfl
        case hQ5 => exact fun _ _ _ h => h
        case hy5 =>
          refine Or.inl ⟨by rfl, ?_⟩
          intro wS hSw
          go_simp
          try with_reducible rfl
        try simp only [Act.put, List.setIfInBounds_toArray, List.set_cons_zero, List.set_cons_succ]
        refine wpAnyH_take (i := 6) (oi := ?oi6) (v := ?v6) ?hi6 (by kernel_rfl) (by kernel_rfl) (by kernel_rfl) ?hQ6 ?hy6 HS ?rest6
        case hi6 => simp only [List.getElem?_toArray, List.getElem?_cons_succ, List.getElem?_cons_zero]; exact rfl
        case hQ6 => exact fun _ _ _ h => h
        case hy6 =>
          refine Or.inl ⟨by rfl, ?_⟩
          intro wS hSw
          go_simp
          try with_reducible rfl
        try simp only [Act.put, List.setIfInBounds_toArray, List.set_cons_zero, List.set_cons_succ]
        refine wpAnyH_take (i := 3) (oi := ?oi3) (v := ?v3) ?hi3 (by kernel_rfl) (by kernel_rfl) (by kernel_rfl) ?hQ3 ?hy3 HS ?rest3
        case hi3 => simp only [List.getElem?_toArray, List.getElem?_cons_succ, List.getElem?_cons_zero]; exact rfl
        case hQ3 => exact fun _ _ _ h => h
        case hy3 =>
          refine Or.inl ⟨by rfl, ?_⟩
          intro wS hSw
          refine Eq.trans (exec_rowB (.tmp 18) ?_ ?_ hSw.1) ?_
          · rfl
          · rfl
          · with_reducible rfl
        try simp only [Act.put, List.setIfInBounds_toArray, List.set_cons_zero, List.set_cons_succ]
        refine wpAnyH_take (i := 7) (oi := ?oi7) (v := ?v7) ?hi7 (by kernel_rfl) (by kernel_rfl) (by kernel_rfl) ?hQ7 ?hy7 HS ?rest7
        case hi7 => simp only [List.getElem?_toArray, List.getElem?_cons_succ, List.getElem?_cons_zero]; exact rfl
        case hQ7 => exact fun _ _ _ h => h
        case hy7 =>
          refine Or.inl ⟨by rfl, ?_⟩
          intro wS hSw
          refine Eq.trans (exec_rowB (.tmp 22) ?_ ?_ hSw.2) ?_
          · rfl
          · rfl
          · with_reducible rfl
        try simp only [Act.put, List.setIfInBounds_toArray, List.set_cons_zero, List.set_cons_succ]
        refine wpAnyH_take (i := 8) (oi := ?oi8) (v := ?v8) ?hi8 (by kernel_rfl) (by kernel_rfl) (by kernel_rfl) ?hQ8 ?hy8 HS ?rest8
        case hi8 => simp only [List.getElem?_toArray, List.getElem?_cons_succ, List.getElem?_cons_zero]; exact rfl
        case hQ8 => exact fun _ _ _ h => h
        case hy8 =>
          refine Or.inl ⟨by rfl, ?_⟩
          intro wS hSw
          have heq := HEQ.out
          go_simp
          try with_reducible rfl
        try simp only [Act.put, List.setIfInBounds_toArray, List.set_cons_zero, List.set_cons_succ]
        refine wpAnyH_done (by kernel_rfl) ?_ _
        rcases hqq : q with _ | _
        · have hxy : x ≠ y := of_decide_eq_false (HQ.out.symm.trans hqq)
          clear hqq HEQ HQ
          have HD : Hid (decide (a = b) = false) := hid (decide_eq_false (HSP.out.2 hxy))
          clear hxy
          go_wp2
          go_ret
          exact ⟨by rw [HD.out]; rfl, hBW.out.drew⟩
        · have hxy : x = y := of_decide_eq_true (HQ.out.symm.trans hqq)
          clear hqq HEQ HQ
          have HT := hid (HSP.out.1 hxy)
          clear hxy
          have HBW2 : Hid (Below w.heap.size w wr.drew) := hid hBW.out.drew
          go_wp2_with fail
          go_roundg (n - (j + 1))
          case measure => exact meas_jb hgk.out HJ.out
          case rel => exact ⟨j + 1, by first | rfl | rw [wj], hid rfl, hid HJ.out, HBW2, HT⟩
      · have hjn : j = n := by have := hj.out; omega
        subst hjn
        have j2 : ¬ (j : Int) < (j : Int) := by omega
        have HD : Hid (decide (a = b) = true) := hid (decide_eq_true (by have := hT.out; rwa [List.take_of_length_le (Nat.le_of_eq HL.out.1), List.take_of_length_le (Nat.le_of_eq HL.out.2)] at this))
        clear hge hj hgk
        go_wp2
        go_ret
        exact ⟨by rw [HD.out]; rfl, hBW.out⟩
  · have e1 : ((n : Int) != (m : Int)) = true := by simp; omega
    have e2 : ¬ (n : Int) = (m : Int) := by omega
    have HD : Hid (decide (a = b) = false) := hid (decide_eq_false fun e => hl (by rw [← hla, ← hlb, e]))
    go_enter Tryz.func29, Tryz.ntmps29
    go_wp2
    go_ret
    exact ⟨by rw [HD.out]; rfl, Below.refl _ _⟩
end Go.Proofs.YtdkbpjkoiegflaaGreat
