/- What page.Read answers, whatever the world. -/
import Derived.Test.YtocmgdhgimpfhaaPgDef
import Derived.Test.YtocmgdhgimpfhaaPgW1
import Derived.Test.YtocmgdhgimpfhaaPgHa
namespace Go.Proofs.Ytocmgdhgimpfhaa
open Go.RowKit

set_option maxRecDepth 100000 in
set_option maxHeartbeats 4000000 in
theorem pread_c (w : World) (F G : Nat → Prop) (gd gv : Nat) (d : St) (v : Va) (hd : Dev w F gd d) (hv : Vlt w G gv v) (p : Pg) (hp : p.wf) (i : Int) (hi : i64ok i) :
    Calls Try.prog 51 #[.pointer (some ⟨gd, 0, none⟩), .pointer (some ⟨gv, 0, none⟩), .int .i64 i, (.agg #[.int .i64 (p).k.t, .int .i64 (p).k.c, .int .i64 (p).k.e, .int .i64 (p).id, .int .i64 (p).ver])] w fun e w' => ∃ A n c, e = .returned (.tuple #[.slice A n c, .int .i64 (prE d v i p)]) ∧ w'.ownsRow w.heap.size 5 1 (.slice A n c) n (bs (prB d v i p)) ∧ n ≤ 65536 ∧ Below w.heap.size w w' := by
  have hb1 : Below w.heap.size w (w.alloc (.cells #[.int .i64 p.k.t, .int .i64 p.k.c, .int .i64 p.k.e, .int .i64 p.id, .int .i64 p.ver] 89)) := (Below.refl _ _).alloc (Nat.le_refl _) _
  have hB : PgB (w.alloc (.cells #[.int .i64 p.k.t, .int .i64 p.k.c, .int .i64 p.k.e, .int .i64 p.id, .int .i64 p.ver] 89)) w.heap.size p := Blk.new w 89 #[.int .i64 p.k.t, .int .i64 p.k.c, .int .i64 p.k.e, .int .i64 p.id, .int .i64 p.ver]
  have hs1 : (w.alloc (.cells #[.int .i64 p.k.t, .int .i64 p.k.c, .int .i64 p.k.e, .int .i64 p.id, .int .i64 p.ver] 89)).heap.size = w.heap.size + 1 := by simp
  have hR := read_any (w.alloc (.cells #[.int .i64 p.k.t, .int .i64 p.k.c, .int .i64 p.k.e, .int .i64 p.id, .int .i64 p.ver] 89)) F gd d (hd.bel hb1) i
  have HB1 := hid hb1
  have HPB := hid hB
  have HS1 := hid hs1
  have HV := hid hv
  have HP := hid hp
  have HI := hid hi
  clear hd hv hb1 hB hs1 hp hi
  by_cases he : rdE d i = 0
  · rw [he] at hR
    have HE : Hid (prE d v i p = if hOf (rdB d i) = 0 then 51 else opE v p.k (besd p i) (hOf (rdB d i))) := hid (by unfold prE; rw [if_neg (by simp [he])])
    have HO : Hid (prB d v i p = if hOf (rdB d i) = 0 then [] else opB v p.k (besd p i) (hOf (rdB d i))) := hid (by unfold prB; rw [if_neg (by simp [he])])
    clear he
    go_enter Try.func51, Try.ntmps51
    go_wp2_with fail
    refine hR.mono ?_
    rintro e w2 ⟨A2, n2, c2, rfl, ho2, hn2, hb2⟩
    obtain ⟨_, _, hf2, hc2⟩ := own_form ho2
    injection hf2 with e1 _ e3
    subst e1 e3
    have hH := handle_c A2 n2 c2 (rdB d i) w2 ((Bts.own ho2).wide (Nat.zero_le _) (Nat.le_refl _)) hc2 (own_cap ho2)
    have HB2 := hid (HB1.out.trans (hb2.mono HB1.out.size))
    have HPB2 := hid (HPB.out.below hb2 (by have := HS1.out; omega))
    have HHL := hid (hOf_lt (rdB d i))
    clear hR ho2 hn2 hb2 hc2 HB1 HPB HS1
    generalize hOf (rdB d i) = h at *
    by_cases hz : h = 0
    · subst hz
      rw [show decide (0 < 0) = false from rfl] at hH
      have HE2 : Hid (prE d v i p = 51) := hid (HE.out.trans (if_pos rfl))
      have HO2 : Hid (prB d v i p = []) := hid (HO.out.trans (if_pos rfl))
      clear HE HO
      go_wp2_with fail
      refine hH.mono ?_
      rintro e w3 ⟨rfl, rfl⟩
      clear hH
      go_wp2
      go_ret2
      exact ⟨none, 0, 0, by rw [HE2.out]; rfl, by rw [HO2.out]; exact own_nilrow _ _ _ _, by omega, HB2.out⟩
    · rw [decide_eq_true (Nat.pos_of_ne_zero hz)] at hH
      have HE2 : Hid (prE d v i p = opE v p.k (besd p i) h) := hid (HE.out.trans (if_neg hz))
      have HO2 : Hid (prB d v i p = opB v p.k (besd p i) h) := hid (HO.out.trans (if_neg hz))
      clear HE HO hz
      go_wp2_with fail
      refine hH.mono ?_
      rintro e w3 ⟨rfl, rfl⟩
      clear hH
      go_wp2_with fail
      refine wp_region_held_drew (S := fun wx => wx.cell? ⟨w.heap.size, 0, none⟩ = some (.int .i64 p.k.t) ∧ wx.cell? ⟨w.heap.size, 1, none⟩ = some (.int .i64 p.k.c) ∧ wx.cell? ⟨w.heap.size, 2, none⟩ = some (.int .i64 p.k.e) ∧ wx.cell? ⟨w.heap.size, 3, none⟩ = some (.int .i64 p.id) ∧ wx.cell? ⟨w.heap.size, 4, none⟩ = some (.int .i64 p.ver)) (by kernel_rfl) (pgB_cells (pgB_drew HPB2.out)) (fun HS => ?_)
      have HB2d := hid HB2.out.drew
      have HPBd := hid (pgB_drew HPB2.out)
      clear HB2 HPB2
      have HSZ : Hid (w2.drew.heap.size = w2.heap.size) := hid rfl
      have HVd : Hid (Vlt w2.drew G gv v) := hid (HV.out.bel HB2d.out)
      have HB2 := HB2d
      generalize w2.drew = w4 at *
      refine wpAnyH_take (i := 0) (oi := ?oi0) (v := ?v0) ?hi0 (by kernel_rfl) (by kernel_rfl) (by kernel_rfl) ?hQ0 ?hy0 HS ?rest0
      case hi0 => simp only [List.getElem?_toArray, List.getElem?_cons_zero]; exact rfl
      case hQ0 => exact fun _ _ _ h => h
      case hy0 =>
        refine Or.inl ⟨by rfl, ?_⟩
        intro wS hSw
        go_simp
        try with_reducible rfl
      try simp only [Act.put, List.setIfInBounds_toArray, List.set_cons_zero, List.set_cons_succ]
      refine wpAnyH_take (i := 1) (oi := ?oi1) (v := ?v1) ?hi1 (by kernel_rfl) (by kernel_rfl) (by kernel_rfl) ?hQ1 ?hy1 HS ?rest1
      case hi1 => simp only [List.getElem?_toArray, List.getElem?_cons_succ, List.getElem?_cons_zero]; exact rfl
      case hQ1 => exact fun _ _ _ h => h
      case hy1 =>
        refine Or.inl ⟨by rfl, ?_⟩
        intro wS hSw
        go_simp
        try with_reducible rfl
      try simp only [Act.put, List.setIfInBounds_toArray, List.set_cons_zero, List.set_cons_succ]
      refine wpAnyH_take (i := 2) (oi := ?oi2) (v := ?v2) ?hi2 (by kernel_rfl) (by kernel_rfl) (by kernel_rfl) ?hQ2 ?hy2 HS ?rest2
      case hi2 => simp only [List.getElem?_toArray, List.getElem?_cons_succ, List.getElem?_cons_zero]; exact rfl
      case hQ2 => exact fun _ _ _ h => h
      case hy2 =>
        refine Or.inl ⟨by rfl, ?_⟩
        intro wS hSw
        go_simp
        try with_reducible rfl
      try simp only [Act.put, List.setIfInBounds_toArray, List.set_cons_zero, List.set_cons_succ]
      refine wpAnyH_take (i := 3) (oi := ?oi3) (v := ?v3) ?hi3 (by kernel_rfl) (by kernel_rfl) (by kernel_rfl) ?hQ3 ?hy3 HS ?rest3
      case hi3 => simp only [List.getElem?_toArray, List.getElem?_cons_succ, List.getElem?_cons_zero]; exact rfl
      case hQ3 => exact fun _ _ _ h => h
      case hy3 =>
        refine Or.inl ⟨by rfl, ?_⟩
        intro wS hSw
        go_simp
        try with_reducible rfl
      try simp only [Act.put, List.setIfInBounds_toArray, List.set_cons_zero, List.set_cons_succ]
      refine wpAnyH_take (i := 4) (oi := ?oi4) (v := ?v4) ?hi4 (by kernel_rfl) (by kernel_rfl) (by kernel_rfl) ?hQ4 ?hy4 HS ?rest4
      case hi4 => simp only [List.getElem?_toArray, List.getElem?_cons_succ, List.getElem?_cons_zero]; exact rfl
      case hQ4 => exact fun _ _ _ h => h
      case hy4 =>
        refine Or.inl ⟨by rfl, ?_⟩
        intro wS hSw
        go_simp
        try with_reducible rfl
      try simp only [Act.put, List.setIfInBounds_toArray, List.set_cons_zero, List.set_cons_succ]
      refine wpAnyH_take (i := 6) (oi := ?oi6) (v := ?v6) ?hi6 (by kernel_rfl) (by kernel_rfl) (by kernel_rfl) ?hQ6 ?hy6 HS ?rest6
      case hi6 => simp only [List.getElem?_toArray, List.getElem?_cons_succ, List.getElem?_cons_zero]; exact rfl
      case hQ6 => exact fun _ _ _ h => h
      case hy6 =>
        refine Or.inl ⟨by rfl, ?_⟩
        intro wS hSw
        go_simp
        try with_reducible rfl
      try simp only [Act.put, List.setIfInBounds_toArray, List.set_cons_zero, List.set_cons_succ]
      refine wpAnyH_ready (rs := [5]) (by kernel_rfl) (by simp) ?_
      refine AllReadyH.cons (o := ?o5) ?ho5 (fun K hK => ?step5) AllReadyH.nil
      case ho5 => simp only [List.getElem?_toArray, List.getElem?_cons_succ, List.getElem?_cons_zero]; exact rfl
      go_simp
      refine (beside_c p HP.out i HI.out w4).mono ?_
      rintro e wa ⟨rfl, hba⟩
      have HBA := hid hba
      have HPBa := hid (HPBd.out.below hba HPBd.out.lt)
      clear hba
      refine hK.out _ _ (pgB_cells HPBa.out) (fun HS => ?_)
      clear hK K
      try simp only [Act.put, List.setIfInBounds_toArray, List.set_cons_zero, List.set_cons_succ]
      refine wpAnyH_ready (rs := [7]) (by kernel_rfl) (by simp) ?_
      refine AllReadyH.cons (o := ?o7) ?ho7 (fun K hK => ?step7) AllReadyH.nil
      case ho7 => simp only [List.getElem?_toArray, List.getElem?_cons_succ, List.getElem?_cons_zero]; exact rfl
      go_simp
      refine (open_any wa G gv v (HVd.out.bel HBA.out) p.k HP.out.1 (besd p i) _ h rfl HHL.out).mono ?_
      rintro e wb ⟨A5, n5, c5, rfl, ho5, hn5, hb5⟩
      have HO5 := hid ho5
      have HN5 := hid hn5
      have HB5 := hid (HB2.out.trans ((HBA.out.trans (hb5.mono HBA.out.size)).mono HB2.out.size))
      have HPBb := hid (HPBa.out.below hb5 HPBa.out.lt)
      clear ho5 hn5 hb5
      refine hK.out _ _ (pgB_cells HPBb.out) (fun HS => ?_)
      clear hK K
      try simp only [Act.put, List.setIfInBounds_toArray, List.set_cons_zero, List.set_cons_succ]
      refine wpAnyH_take (i := 8) (oi := ?oi8) (v := ?v8) ?hi8 (by kernel_rfl) (by kernel_rfl) (by kernel_rfl) ?hQ8 ?hy8 HS ?rest8
      case hi8 => simp only [List.getElem?_toArray, List.getElem?_cons_succ, List.getElem?_cons_zero]; exact rfl
      case hQ8 => exact fun _ _ _ h => h
      case hy8 =>
        refine Or.inl ⟨by rfl, ?_⟩
        intro wS hSw
        go_simp
        try with_reducible rfl
      try simp only [Act.put, List.setIfInBounds_toArray, List.set_cons_zero, List.set_cons_succ]
      refine wpAnyH_take (i := 9) (oi := ?oi9) (v := ?v9) ?hi9 (by kernel_rfl) (by kernel_rfl) (by kernel_rfl) ?hQ9 ?hy9 HS ?rest9
      case hi9 => simp only [List.getElem?_toArray, List.getElem?_cons_succ, List.getElem?_cons_zero]; exact rfl
      case hQ9 => exact fun _ _ _ h => h
      case hy9 =>
        refine Or.inl ⟨by rfl, ?_⟩
        intro wS hSw
        go_simp
        try with_reducible rfl
      try simp only [Act.put, List.setIfInBounds_toArray, List.set_cons_zero, List.set_cons_succ]
      refine wpAnyH_take (i := 10) (oi := ?oi10) (v := ?v10) ?hi10 (by kernel_rfl) (by kernel_rfl) (by kernel_rfl) ?hQ10 ?hy10 HS ?rest10
      case hi10 => simp only [List.getElem?_toArray, List.getElem?_cons_succ, List.getElem?_cons_zero]; exact rfl
      case hQ10 => exact fun _ _ _ h => h
      case hy10 =>
        refine Or.inl ⟨by rfl, ?_⟩
        intro wS hSw
        go_simp
        try with_reducible rfl
      try simp only [Act.put, List.setIfInBounds_toArray, List.set_cons_zero, List.set_cons_succ]
      refine wpAnyH_take (i := 11) (oi := ?oi11) (v := ?v11) ?hi11 (by kernel_rfl) (by kernel_rfl) (by kernel_rfl) ?hQ11 ?hy11 HS ?rest11
      case hi11 => simp only [List.getElem?_toArray, List.getElem?_cons_succ, List.getElem?_cons_zero]; exact rfl
      case hQ11 => exact fun _ _ _ h => h
      case hy11 =>
        refine Or.inl ⟨by rfl, ?_⟩
        intro wS hSw
        go_simp
        try with_reducible rfl
      try simp only [Act.put, List.setIfInBounds_toArray, List.set_cons_zero, List.set_cons_succ]
      refine wpAnyH_done (by kernel_rfl) ?_ _
      go_wp2
      go_ret2
      exact ⟨A5, n5, c5, by rw [HE2.out]; rfl, by rw [HO2.out]; exact own_lower HO5.out (Nat.le_trans HB2.out.size HBA.out.size), HN5.out, HB5.out⟩
  · have HE : Hid (prE d v i p = rdE d i) := hid (by unfold prE; rw [if_pos he])
    have HO : Hid (prB d v i p = []) := hid (by unfold prB; rw [if_pos he])
    have e1 : (rdE d i == 0) = false := by simpa using he
    have e2 : (rdE d i != 0) = true := by simpa using he
    have e3 : decide (rdE d i = 0) = false := by simpa using he
    generalize rdE d i = E at *
    clear he
    go_enter Try.func51, Try.ntmps51
    go_wp2_with fail
    refine hR.mono ?_
    rintro e w2 ⟨A2, n2, c2, rfl, ho2, hn2, hb2⟩
    have HB2 := hid (HB1.out.trans (hb2.mono HB1.out.size))
    clear hR ho2 hn2 hb2
    go_wp2
    go_ret2
    exact ⟨none, 0, 0, by rw [HE.out]; rfl, by rw [HO.out]; exact own_nilrow _ _ _ _, by omega, HB2.out⟩
end Go.Proofs.Ytocmgdhgimpfhaa
