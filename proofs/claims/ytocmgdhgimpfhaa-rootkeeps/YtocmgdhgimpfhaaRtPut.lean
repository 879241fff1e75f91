/- What root.Put and root.Get answer and leave, in their place among others. -/
import Derived.Test.YtocmgdhgimpfhaaRtW
import Derived.Deep.DeepCutAuto
namespace Go.Proofs.Ytocmgdhgimpfhaa
open Go.RowKit

theorem up1k {n : Nat} (h : n ≤ 1000000000) : IntKind.i64.wrap ((n : Int) + 1) = ((n + 1 : Nat) : Int) := by rw [IntWalk.i64_in _ (by omega)]; omega
theorem pt_err {d : St} {v : Va} {c : Ce} {n : Nat} (h : pwE d v (rtI (nxt v c)) (rtP (nxt v c)) n ≠ 0) : ptE d v c n = pwE d v (rtI (nxt v c)) (rtP (nxt v c)) n ∧ ptD d v c n = pwD d v (rtI (nxt v c)) (rtP (nxt v c)) n ∧ ptC d v c n = c := by
  have h1 : ptE d v c n = pwE d v (rtI (nxt v c)) (rtP (nxt v c)) n := by unfold ptE; rw [if_pos h]
  exact ⟨h1, by unfold ptD; rw [if_pos h], by unfold ptC; rw [h1, if_neg h]⟩
theorem pt_on {d : St} {v : Va} {c : Ce} {n : Nat} (h : pwE d v (rtI (nxt v c)) (rtP (nxt v c)) n = 0) : ptE d v c n = caE (syS (pwD d v (rtI (nxt v c)) (rtP (nxt v c)) n)) ∧ ptD d v c n = beS (syS (pwD d v (rtI (nxt v c)) (rtP (nxt v c)) n)) ∧ ptC d v c n = (if caE (syS (pwD d v (rtI (nxt v c)) (rtP (nxt v c)) n)) = 0 then nxt v c else c) := by
  have h0 : ¬ pwE d v (rtI (nxt v c)) (rtP (nxt v c)) n ≠ 0 := fun e => e h
  have h1 : ptE d v c n = caE (syS (pwD d v (rtI (nxt v c)) (rtP (nxt v c)) n)) := by unfold ptE; rw [if_neg h0]
  exact ⟨h1, by unfold ptD; rw [if_neg h0], by unfold ptC; rw [h1]⟩
set_option maxRecDepth 100000 in
set_option maxHeartbeats 4000000 in
theorem put_on {C : Ob → Ob} {w wr : World} {gd gv gc : Nat} {d : St} {v : Va} {c : Ce} {X : Nat → Prop} (hC : Foc C) (hOk : ∀ P : Ob, P.Ok → (C P).Ok) (h : On w (C (TC gd d gv v gc c)) wr X) (A : Option Addr) (n k : Nat) (l : List UInt8) (hr : Bts wr 0 wr.heap.size A n l) (hW : d.W.length ≤ 50000) (hL : v.L.length ≤ 500000) (hv : c.ver ≤ 500000) :
    Calls Try.prog 11 #[.pointer (some ⟨gd, 0, none⟩), .pointer (some ⟨gv, 0, none⟩), .pointer (some ⟨gc, 0, none⟩), .slice A n k] wr fun e w' => e = .returned (.int .i64 (ptE d v c l.length)) ∧ On w (C (TC gd (ptD d v c l.length) gv (ptV d v c l) gc (ptC d v c l.length))) w' X ∧ Stay X wr w' := by
  have hw1 := up1k (n := c.ver) (by omega)
  have hw2 := up1k (n := v.L.length) (by omega)
  have HWF : Hid ((rtP (nxt v c)).wf) := hid (rtP_wf (by show c.ver + 1 ≤ _; omega) (by show v.L.length + 1 ≤ _; omega))
  have HWL : Hid (d.W.length ≤ 100000) := hid (by omega)
  have HW2 : Hid ((pwD d v (rtI (nxt v c)) (rtP (nxt v c)) l.length).W.length ≤ 100000) := hid (by have := pwD_W d v (rtI (nxt v c)) (rtP (nxt v c)) l.length; omega)
  have HLL : Hid (v.L.length ≤ 1000000) := hid (by omega)
  have HOK := hid hOk
  have HR := hid hr
  obtain ⟨hb, -, -⟩ := ce_at (hC.comp (tc_c gd d gv v)) h
  obtain ⟨x0, x1⟩ := ce_cells hb
  have HB := hid hb
  have HH := hid h
  clear hr hW hL hb hv h hOk
  go_enter Try.func11, Try.ntmps11
  go_wp2_with fail
  have hbel : Below wr.heap.size wr wr.drew := (Below.refl _ _).drew
  have HBEL := hid hbel
  have HD := hid (HH.out.go (HOK.out _ (TC.ok _ _ _ _ _ _)) hbel)
  have HBD : Hid (Blk wr.drew gc 33 #[.int .i64 (c.ver : Int), .int .i64 (c.mark : Int)]) := hid HB.out
  have hsz : wr.drew.heap.size = wr.heap.size := rfl
  have HSZ := hid hsz
  clear hbel HH HB x0 x1 hsz
  go_cut [9] (fun s9 wx => s9 = .pointer (some ⟨wr.drew.heap.size, 0, none⟩) ∧ wx = wr.drew.alloc (.cells #[.int .i64 ((c.ver + 1 : Nat) : Int), .int .i64 ((v.L.length + 1 : Nat) : Int)] 33))
  case first =>
    refine wp_region_held_drew (S := fun wx => wx.cell? ⟨gc, 0, none⟩ = some (.int .i64 (c.ver : Int)) ∧ wx.cell? ⟨gc, 1, none⟩ = some (.int .i64 (c.mark : Int))) (by kernel_rfl) (ce_cells HBD.out) (fun HS => ?_)
    generalize wr.drew = w3 at *
    refine wpAnyH_take (i := 0) (oi := ?oia0) (v := ?va0) ?hia0 (by kernel_rfl) (by kernel_rfl) (by kernel_rfl) ?hQa0 ?hya0 HS ?resta0
    case hia0 => simp only [List.getElem?_toArray, List.getElem?_cons_zero]; exact rfl
    case hQa0 => exact fun _ _ _ h => h
    case hya0 =>
      refine Or.inl ⟨by rfl, ?_⟩
      intro wS hSw
      go_simp
      try with_reducible rfl
    try simp only [Act.put, List.setIfInBounds_toArray, List.set_cons_zero, List.set_cons_succ]
    refine wpAnyH_take (i := 1) (oi := ?oia1) (v := ?va1) ?hia1 (by kernel_rfl) (by kernel_rfl) (by kernel_rfl) ?hQa1 ?hya1 HS ?resta1
    case hia1 => simp only [List.getElem?_toArray, List.getElem?_cons_succ, List.getElem?_cons_zero]; exact rfl
    case hQa1 => exact fun _ _ _ h => h
    case hya1 =>
      refine Or.inl ⟨by rfl, ?_⟩
      intro wS hSw
      go_simp
      try with_reducible rfl
    try simp only [Act.put, List.setIfInBounds_toArray, List.set_cons_zero, List.set_cons_succ]
    refine wpAnyH_take (i := 2) (oi := ?oia2) (v := ?va2) ?hia2 (by kernel_rfl) (by kernel_rfl) (by kernel_rfl) ?hQa2 ?hya2 HS ?resta2
    case hia2 => simp only [List.getElem?_toArray, List.getElem?_cons_succ, List.getElem?_cons_zero]; exact rfl
    case hQa2 => exact fun _ _ _ h => h
    case hya2 =>
      refine Or.inl ⟨by rfl, ?_⟩
      intro wS hSw
      go_simp
      try with_reducible rfl
    try simp only [Act.put, List.setIfInBounds_toArray, List.set_cons_zero, List.set_cons_succ]
    refine wpAnyH_take (i := 3) (oi := ?oia3) (v := ?va3) ?hia3 (by kernel_rfl) (by kernel_rfl) (by kernel_rfl) ?hQa3 ?hya3 HS ?resta3
    case hia3 => simp only [List.getElem?_toArray, List.getElem?_cons_succ, List.getElem?_cons_zero]; exact rfl
    case hQa3 => exact fun _ _ _ h => h
    case hya3 =>
      refine Or.inl ⟨by rfl, ?_⟩
      intro wS hSw
      go_simp
      try with_reducible rfl
    try simp only [Act.put, List.setIfInBounds_toArray, List.set_cons_zero, List.set_cons_succ]
    refine wpAnyH_take (i := 4) (oi := ?oia4) (v := ?va4) ?hia4 (by kernel_rfl) (by kernel_rfl) (by kernel_rfl) ?hQa4 ?hya4 HS ?resta4
    case hia4 => simp only [List.getElem?_toArray, List.getElem?_cons_succ, List.getElem?_cons_zero]; exact rfl
    case hQa4 => exact fun _ _ _ h => h
    case hya4 =>
      refine Or.inl ⟨by rfl, ?_⟩
      intro wS hSw
      go_simp
      try with_reducible rfl
    try simp only [Act.put, List.setIfInBounds_toArray, List.set_cons_zero, List.set_cons_succ]
    refine wpAnyH_take (i := 5) (oi := ?oia5) (v := ?va5) ?hia5 (by kernel_rfl) (by kernel_rfl) (by kernel_rfl) ?hQa5 ?hya5 HS ?resta5
    case hia5 => simp only [List.getElem?_toArray, List.getElem?_cons_succ, List.getElem?_cons_zero]; exact rfl
    case hQa5 => exact fun _ _ _ h => h
    case hya5 =>
      refine Or.inl ⟨by rfl, ?_⟩
      intro wS hSw
      go_simp
      try with_reducible rfl
    try simp only [Act.put, List.setIfInBounds_toArray, List.set_cons_zero, List.set_cons_succ]
    refine wpAnyH_ready (rs := [6, 9]) (by kernel_rfl) (by simp) ?_
    refine (AllReadyH.cons (o := ?oa6) ?hoa6 (fun K hK => ?stepa6) (AllReadyH.cons (o := ?oa9) ?hoa9 (fun K hK => ?stepa9) AllReadyH.nil))
    case hoa6 => simp only [List.getElem?_toArray, List.getElem?_cons_succ, List.getElem?_cons_zero]; exact rfl
    case hoa9 => simp only [List.getElem?_toArray, List.getElem?_cons_succ, List.getElem?_cons_zero]; exact rfl
    case stepa6 =>
      go_simp
      refine (vsealed_on (hC.comp (tc_v gd d gc c)) HD.out).mono ?_
      rintro e wz ⟨rfl, rfl⟩
      refine hK.out _ _ (ce_cells HBD.out) (fun HS => ?_)
      clear hK K
      try simp only [Act.put, List.setIfInBounds_toArray, List.set_cons_zero, List.set_cons_succ]
      refine wpAnyH_take (i := 7) (oi := ?oib7) (v := ?vb7) ?hib7 (by kernel_rfl) (by kernel_rfl) (by kernel_rfl) ?hQb7 ?hyb7 HS ?restb7
      case hib7 => simp only [List.getElem?_toArray, List.getElem?_cons_succ, List.getElem?_cons_zero]; exact rfl
      case hQb7 => exact fun _ _ _ h => h
      case hyb7 =>
        refine Or.inl ⟨by rfl, ?_⟩
        intro wS hSw
        go_simp
        try with_reducible rfl
      try simp only [Act.put, List.setIfInBounds_toArray, List.set_cons_zero, List.set_cons_succ]
      refine wpAnyH_take (i := 8) (oi := ?oib8) (v := ?vb8) ?hib8 (by kernel_rfl) (by kernel_rfl) (by kernel_rfl) ?hQb8 ?hyb8 HS ?restb8
      case hib8 => simp only [List.getElem?_toArray, List.getElem?_cons_succ, List.getElem?_cons_zero]; exact rfl
      case hQb8 => exact fun _ _ _ h => h
      case hyb8 =>
        refine Or.inl ⟨by rfl, ?_⟩
        intro wS hSw
        go_simp
        try with_reducible rfl
      try simp only [Act.put, List.setIfInBounds_toArray, List.set_cons_zero, List.set_cons_succ]
      refine wpAnyH_ready (rs := [9]) (by kernel_rfl) (by simp) ?_
      refine AllReadyH.cons (o := ?ob9) ?hob9 (fun K hK => ?stepb9) AllReadyH.nil
      case hob9 => simp only [List.getElem?_toArray, List.getElem?_cons_succ, List.getElem?_cons_zero]; exact rfl
      go_simp
      refine hK.out _ _ (ce_cells (HBD.out.keep (((Below.refl w3.heap.size w3).alloc (Nat.le_refl _) _).block gc HBD.out.lt))) (fun HS => ?_)
      clear hK K
      try simp only [Act.put, List.setIfInBounds_toArray, List.set_cons_zero, List.set_cons_succ]
      refine wpAnyH_ready (rs := [10]) (by kernel_rfl) (by simp) ?_
      refine AllReadyH.cons (o := ?ob10) ?hob10 (fun K hK => ?stepb10) AllReadyH.nil
      case hob10 => simp only [List.getElem?_toArray, List.getElem?_cons_succ, List.getElem?_cons_zero]; exact rfl
      go_simp
      refine hK.out _ _ (ce_cells (HBD.out.keep (((Below.refl w3.heap.size w3).alloc (Nat.le_refl _) _).block gc HBD.out.lt))) (fun HS => ?_)
      clear hK K
      try simp only [Act.put]
      refine wpAnyH_done (by kernel_rfl) ?_ _
      clear HS
      go_wp2_with fail
      go_meet
      case rel => exact ⟨rfl, rfl⟩
    case stepa9 =>
      go_simp
      refine hK.out _ _ (ce_cells (HBD.out.keep (((Below.refl w3.heap.size w3).alloc (Nat.le_refl _) _).block gc HBD.out.lt))) (fun HS => ?_)
      clear hK K
      try simp only [Act.put, List.setIfInBounds_toArray, List.set_cons_zero, List.set_cons_succ]
      refine wpAnyH_ready (rs := [6]) (by kernel_rfl) (by simp) ?_
      refine AllReadyH.cons (o := ?oc6) ?hoc6 (fun K hK => ?stepc6) AllReadyH.nil
      case hoc6 => simp only [List.getElem?_toArray, List.getElem?_cons_succ, List.getElem?_cons_zero]; exact rfl
      go_simp
      refine (vsealed_on (hC.comp (tc_v gd d gc c)) (HD.out.go (HOK.out _ (TC.ok _ _ _ _ _ _)) ((Below.refl _ _).alloc (Nat.le_refl _) _))).mono ?_
      rintro e wz ⟨rfl, rfl⟩
      refine hK.out _ _ (ce_cells (HBD.out.keep (((Below.refl w3.heap.size w3).alloc (Nat.le_refl _) _).block gc HBD.out.lt))) (fun HS => ?_)
      clear hK K
      try simp only [Act.put, List.setIfInBounds_toArray, List.set_cons_zero, List.set_cons_succ]
      refine wpAnyH_take (i := 7) (oi := ?oic7) (v := ?vc7) ?hic7 (by kernel_rfl) (by kernel_rfl) (by kernel_rfl) ?hQc7 ?hyc7 HS ?restc7
      case hic7 => simp only [List.getElem?_toArray, List.getElem?_cons_succ, List.getElem?_cons_zero]; exact rfl
      case hQc7 => exact fun _ _ _ h => h
      case hyc7 =>
        refine Or.inl ⟨by rfl, ?_⟩
        intro wS hSw
        go_simp
        try with_reducible rfl
      try simp only [Act.put, List.setIfInBounds_toArray, List.set_cons_zero, List.set_cons_succ]
      refine wpAnyH_take (i := 8) (oi := ?oic8) (v := ?vc8) ?hic8 (by kernel_rfl) (by kernel_rfl) (by kernel_rfl) ?hQc8 ?hyc8 HS ?restc8
      case hic8 => simp only [List.getElem?_toArray, List.getElem?_cons_succ, List.getElem?_cons_zero]; exact rfl
      case hQc8 => exact fun _ _ _ h => h
      case hyc8 =>
        refine Or.inl ⟨by rfl, ?_⟩
        intro wS hSw
        go_simp
        try with_reducible rfl
      try simp only [Act.put, List.setIfInBounds_toArray, List.set_cons_zero, List.set_cons_succ]
      refine wpAnyH_ready (rs := [10]) (by kernel_rfl) (by simp) ?_
      refine AllReadyH.cons (o := ?oc10) ?hoc10 (fun K hK => ?stepc10) AllReadyH.nil
      case hoc10 => simp only [List.getElem?_toArray, List.getElem?_cons_succ, List.getElem?_cons_zero]; exact rfl
      go_simp
      refine hK.out _ _ (ce_cells (HBD.out.keep (((Below.refl w3.heap.size w3).alloc (Nat.le_refl _) _).block gc HBD.out.lt))) (fun HS => ?_)
      clear hK K
      try simp only [Act.put]
      refine wpAnyH_done (by kernel_rfl) ?_ _
      clear HS
      go_wp2_with fail
      go_meet
      case rel => exact ⟨rfl, rfl⟩
  case rest =>
  obtain ⟨rfl, rfl⟩ := hcut
  generalize wr.drew = w3 at *
  have hb4 : Below w3.heap.size w3 (w3.alloc (.cells #[.int .i64 ((c.ver + 1 : Nat) : Int), .int .i64 ((v.L.length + 1 : Nat) : Int)] 33)) := (Below.refl _ _).alloc (Nat.le_refl _) _
  have HB4 : Hid (Below wr.heap.size wr (w3.alloc (.cells #[.int .i64 ((c.ver + 1 : Nat) : Int), .int .i64 ((v.L.length + 1 : Nat) : Int)] 33))) := hid (HBEL.out.trans (hb4.mono HBEL.out.size))
  have H4 : Hid (On w (C (TC gd d gv v gc c)) (w3.alloc (.cells #[.int .i64 ((c.ver + 1 : Nat) : Int), .int .i64 ((v.L.length + 1 : Nat) : Int)] 33)) (fun x => X x ∨ x = w3.heap.size)) := hid (HD.out.add (HOK.out _ (TC.ok _ _ _ _ _ _)) hb4 (Y := fun x => x = w3.heap.size) (fun x hx => by subst hx; simp))
  have HK4 : Hid (Blk (w3.alloc (.cells #[.int .i64 ((c.ver + 1 : Nat) : Int), .int .i64 ((v.L.length + 1 : Nat) : Int)] 33)) w3.heap.size 33 #[.int .i64 ((c.ver + 1 : Nat) : Int), .int .i64 ((v.L.length + 1 : Nat) : Int)]) := hid (Blk.new w3 33 #[.int .i64 ((c.ver + 1 : Nat) : Int), .int .i64 ((v.L.length + 1 : Nat) : Int)])
  have HX4 : Hid (∀ x, X x → x < wr.heap.size) := hid (fun x hx => by have := HD.out.lt hx; rw [HSZ.out] at this; exact this)
  clear hb4 HD HBEL HBD hw1 hw2 HSZ
  generalize w3.heap.size = nb at *
  generalize w3.alloc (.cells #[.int .i64 ((c.ver + 1 : Nat) : Int), .int .i64 ((v.L.length + 1 : Nat) : Int)] 33) = w4 at *
  go_wp2_with fail
  have HB5 : Hid (Below wr.heap.size wr w4.drew) := hid HB4.out.drew
  have H5 := hid (H4.out.go (HOK.out _ (TC.ok _ _ _ _ _ _)) (wr' := w4.drew) ((Below.refl _ _).drew))
  have HK5 : Hid (Blk w4.drew nb 33 #[.int .i64 ((c.ver + 1 : Nat) : Int), .int .i64 ((v.L.length + 1 : Nat) : Int)]) := hid HK4.out
  clear HB4 H4 HK4
  refine wp_region_held_drew (S := fun wx => wx.cell? ⟨nb, 0, none⟩ = some (.int .i64 ((c.ver + 1 : Nat) : Int)) ∧ wx.cell? ⟨nb, 1, none⟩ = some (.int .i64 ((v.L.length + 1 : Nat) : Int))) (by kernel_rfl) (ce_cells (c := nxt v c) HK5.out) (fun HS => ?_)
  generalize w4.drew = w5 at *
  refine wpAnyH_take (i := 0) (oi := ?oid0) (v := ?vd0) ?hid0 (by kernel_rfl) (by kernel_rfl) (by kernel_rfl) ?hQd0 ?hyd0 HS ?restd0
  case hid0 => simp only [List.getElem?_toArray, List.getElem?_cons_zero]; exact rfl
  case hQd0 => exact fun _ _ _ h => h
  case hyd0 =>
    refine Or.inl ⟨by rfl, ?_⟩
    intro wS hSw
    go_simp
    try with_reducible rfl
  try simp only [Act.put, List.setIfInBounds_toArray, List.set_cons_zero, List.set_cons_succ]
  refine wpAnyH_take (i := 1) (oi := ?oid1) (v := ?vd1) ?hid1 (by kernel_rfl) (by kernel_rfl) (by kernel_rfl) ?hQd1 ?hyd1 HS ?restd1
  case hid1 => simp only [List.getElem?_toArray, List.getElem?_cons_succ, List.getElem?_cons_zero]; exact rfl
  case hQd1 => exact fun _ _ _ h => h
  case hyd1 =>
    refine Or.inl ⟨by rfl, ?_⟩
    intro wS hSw
    go_simp
    try with_reducible rfl
  try simp only [Act.put, List.setIfInBounds_toArray, List.set_cons_zero, List.set_cons_succ]
  refine wpAnyH_take (i := 2) (oi := ?oid2) (v := ?vd2) ?hid2 (by kernel_rfl) (by kernel_rfl) (by kernel_rfl) ?hQd2 ?hyd2 HS ?restd2
  case hid2 => simp only [List.getElem?_toArray, List.getElem?_cons_succ, List.getElem?_cons_zero]; exact rfl
  case hQd2 => exact fun _ _ _ h => h
  case hyd2 =>
    refine Or.inl ⟨by rfl, ?_⟩
    intro wS hSw
    go_simp
    try with_reducible rfl
  try simp only [Act.put, List.setIfInBounds_toArray, List.set_cons_zero, List.set_cons_succ]
  refine wpAnyH_take (i := 4) (oi := ?oid4) (v := ?vd4) ?hid4 (by kernel_rfl) (by kernel_rfl) (by kernel_rfl) ?hQd4 ?hyd4 HS ?restd4
  case hid4 => simp only [List.getElem?_toArray, List.getElem?_cons_succ, List.getElem?_cons_zero]; exact rfl
  case hQd4 => exact fun _ _ _ h => h
  case hyd4 =>
    refine Or.inl ⟨by rfl, ?_⟩
    intro wS hSw
    go_simp
    try with_reducible rfl
  try simp only [Act.put, List.setIfInBounds_toArray, List.set_cons_zero, List.set_cons_succ]
  refine wpAnyH_take (i := 6) (oi := ?oid6) (v := ?vd6) ?hid6 (by kernel_rfl) (by kernel_rfl) (by kernel_rfl) ?hQd6 ?hyd6 HS ?restd6
  case hid6 => simp only [List.getElem?_toArray, List.getElem?_cons_succ, List.getElem?_cons_zero]; exact rfl
  case hQd6 => exact fun _ _ _ h => h
  case hyd6 =>
    refine Or.inl ⟨by rfl, ?_⟩
    intro wS hSw
    go_simp
    try with_reducible rfl
  try simp only [Act.put, List.setIfInBounds_toArray, List.set_cons_zero, List.set_cons_succ]
  refine wpAnyH_ready (rs := [3]) (by kernel_rfl) (by simp) ?_
  refine AllReadyH.cons (o := ?od3) ?hod3 (fun K hK => ?stepd3) AllReadyH.nil
  case hod3 => simp only [List.getElem?_toArray, List.getElem?_cons_succ, List.getElem?_cons_zero]; exact rfl
  go_simp
  refine (cblock_c (nxt v c) w5).mono ?_
  rintro e wa ⟨rfl, hba⟩
  have HBa := hid (HB5.out.trans (hba.mono HB5.out.size))
  have Ha := hid (H5.out.go (HOK.out _ (TC.ok _ _ _ _ _ _)) hba)
  have HKa := hid (HK5.out.keep (hba.block nb HK5.out.lt))
  clear hba HB5 H5 HK5
  refine hK.out _ _ (ce_cells (c := nxt v c) HKa.out) (fun HS => ?_)
  clear hK K
  try simp only [Act.put, List.setIfInBounds_toArray, List.set_cons_zero, List.set_cons_succ]
  refine wpAnyH_ready (rs := [5]) (by kernel_rfl) (by simp) ?_
  refine AllReadyH.cons (o := ?od5) ?hod5 (fun K hK => ?stepd5) AllReadyH.nil
  case hod5 => simp only [List.getElem?_toArray, List.getElem?_cons_succ, List.getElem?_cons_zero]; exact rfl
  go_simp
  refine (cpage_c (nxt v c) wa).mono ?_
  rintro e wb ⟨rfl, hba⟩
  have HBb := hid (HBa.out.trans (hba.mono HBa.out.size))
  have Hb := hid (Ha.out.go (HOK.out _ (TC.ok _ _ _ _ _ _)) hba)
  have HKb := hid (HKa.out.keep (hba.block nb HKa.out.lt))
  clear hba HBa Ha HKa
  refine hK.out _ _ (ce_cells (c := nxt v c) HKb.out) (fun HS => ?_)
  clear hK K
  try simp only [Act.put, List.setIfInBounds_toArray, List.set_cons_zero, List.set_cons_succ]
  refine wpAnyH_ready (rs := [7]) (by kernel_rfl) (by simp) ?_
  refine AllReadyH.cons (o := ?od7) ?hod7 (fun K hK => ?stepd7) AllReadyH.nil
  case hod7 => simp only [List.getElem?_toArray, List.getElem?_cons_succ, List.getElem?_cons_zero]; exact rfl
  go_simp
  refine (pwrite_on (hC.comp (tc_p gc c)) Hb.out (rtP (nxt v c)) HWF.out (rtI (nxt v c)) (rtI_ok _) A n k l ((HR.out.below HBb.out (Nat.le_refl _)).wide (Nat.le_refl _) HBb.out.size) HWL.out HLL.out).mono ?_
  rintro e w6 ⟨rfl, hv6, hk6⟩
  refine hK.out _ _ (ce_cells (c := nxt v c) (HKb.out.keep (hk6.2 nb (.inr rfl)))) (fun HS => ?_)
  clear hK K
  try simp only [Act.put, List.setIfInBounds_toArray, List.set_cons_zero, List.set_cons_succ]
  refine wpAnyH_take (i := 8) (oi := ?oid8) (v := ?vd8) ?hid8 (by kernel_rfl) (by kernel_rfl) (by kernel_rfl) ?hQd8 ?hyd8 HS ?restd8
  case hid8 => simp only [List.getElem?_toArray, List.getElem?_cons_succ, List.getElem?_cons_zero]; exact rfl
  case hQd8 => exact fun _ _ _ h => h
  case hyd8 =>
    refine Or.inl ⟨by rfl, ?_⟩
    intro wS hSw
    go_simp
    try with_reducible rfl
  try simp only [Act.put, List.setIfInBounds_toArray, List.set_cons_zero, List.set_cons_succ]
  refine wpAnyH_done (by kernel_rfl) ?_ _
  clear HS
  have HC6 := hid hv6
  have HK6 := hid (HKb.out.keep (hk6.2 nb (.inr rfl)))
  have HY6 : Hid (Stay X wr w6) := hid ((Stay.below HBb.out HX4.out).trans (hk6.less fun x hx => .inl hx))
  clear hv6 hk6 HKb HBb HX4 Hb
  have hq := @pt_err d v c l.length
  have hp := @pt_on d v c l.length
  have HQ := hid hq
  have HP := hid hp
  have HV : Hid (ptV d v c l = pwV d v (rtI (nxt v c)) (rtP (nxt v c)) l) := hid rfl
  clear hq hp
  generalize pwE d v (rtI (nxt v c)) (rtP (nxt v c)) l.length = E1 at *
  generalize pwD d v (rtI (nxt v c)) (rtP (nxt v c)) l.length = D1 at *
  generalize pwV d v (rtI (nxt v c)) (rtP (nxt v c)) l = V1 at *
  obtain ⟨y0, y1⟩ := ce_cells (c := nxt v c) HK6.out
  by_cases hz : E1 = 0
  · obtain ⟨q1, q2, q3⟩ := HP.out hz
    have hs := dsync_on (hC.comp (tc_d gv V1 gc c)) HC6.out HW2.out
    subst hz
    have Q := hid (And.intro q1 (And.intro q2 q3))
    clear q1 q2 q3 HQ HP
    go_wp2_with fail
    refine hs.mono ?_
    rintro e w7 ⟨rfl, hv7, hk7⟩
    have H7 := hid hv7
    have HK7 := hid (HK6.out.keep (hk7.2 nb (.inr rfl)))
    have HY7 := hid (HY6.out.trans (hk7.less fun x hx => .inl hx))
    clear hs hv7 hk7 HC6 HK6 HY6 y0 y1
    by_cases h2 : caE D1 = 0
    · have hbt := dbeat_on (hC.comp (tc_d gv V1 gc c)) H7.out
      rw [h2]
      clear h2
      go_wp2_with fail
      refine hbt.mono ?_
      rintro e w8 ⟨rfl, hv8, hk8⟩
      have H8 := hid hv8
      have HK8 := hid (HK7.out.keep (hk8.2 nb (.inr rfl)))
      have HY8 := hid (HY7.out.trans (hk8.less fun x hx => .inl hx))
      clear hbt hv8 hk8 H7 HK7 HY7
      by_cases h3 : caE (syS D1) = 0
      · obtain ⟨q1, q2, q3⟩ := Q.out
        rw [if_pos h3] at q3
        rw [h3] at q1
        have Q2 := hid (And.intro q1 (And.intro q2 q3))
        rw [h3]
        clear h3 q1 q2 q3 Q
        obtain ⟨y0, y1⟩ := ce_cells (c := nxt v c) HK8.out
        obtain ⟨hb8, hx8, -⟩ := ce_at (hC.comp (tc_c gd _ gv V1)) H8.out
        obtain ⟨x0, x1⟩ := ce_cells hb8
        have f0 := hb8.frozen 0
        have f1 := hb8.frozen 1
        have hb9 : Blk ((w8.setCell ⟨gc, 0, none⟩ (.int .i64 ((nxt v c).ver : Int))).setCell ⟨gc, 1, none⟩ (.int .i64 ((nxt v c).mark : Int))) gc 33 #[.int .i64 ((nxt v c).ver : Int), .int .i64 ((nxt v c).mark : Int)] := (hb8.store 0 (.int .i64 ((nxt v c).ver : Int))).store 1 (.int .i64 ((nxt v c).mark : Int))
        have hg9 : w8.grownBy ((w8.setCell ⟨gc, 0, none⟩ (.int .i64 ((nxt v c).ver : Int))).setCell ⟨gc, 1, none⟩ (.int .i64 ((nxt v c).mark : Int))) (some gc) := grown_setCells gc [.int .i64 ((nxt v c).ver : Int), .int .i64 ((nxt v c).mark : Int)] 0 w8
        obtain ⟨k1, k2⟩ := ce_set (hC.comp (tc_c gd _ gv V1)) (H8.out.less (Y := X) fun x hx => .inl hx) hb9 hg9
        have HF := hid k1
        have HY9 := hid (HY8.out.trans k2)
        clear hb8 hx8 hb9 hg9 k1 k2 HK8 H8
        go_wp2
        go_ret
        exact ⟨by rw [Q2.out.1]; rfl, by rw [Q2.out.2.1, Q2.out.2.2, HV.out]; exact HF.out, HY9.out⟩
      · obtain ⟨q1, q2, q3⟩ := Q.out
        rw [if_neg h3] at q3
        have z1 : (caE (syS D1) == 0) = false := by simpa using h3
        have z2 : (caE (syS D1) != 0) = true := by simpa using h3
        have z3 : decide (caE (syS D1) = 0) = false := by simpa using h3
        have HF : Hid (On w (C (TC gd (beS (syS D1)) gv V1 gc c)) w8 X) := hid (H8.out.less fun x hx => .inl hx)
        have Q2 := hid (And.intro q1 (And.intro q2 q3))
        clear Q q1 q2 q3 h3
        generalize caE (syS D1) = E3 at *
        go_wp2
        go_ret
        exact ⟨by rw [Q2.out.1]; rfl, by rw [Q2.out.2.1, Q2.out.2.2, HV.out]; exact HF.out, HY8.out⟩
    · obtain ⟨q1, q2, q3⟩ := Q.out
      have e1 := syS_off h2
      have e2 := beS_off h2
      have HF := hid (H7.out.less (Y := X) fun x hx => .inl hx)
      rw [e1] at HF q1 q2 q3
      rw [e2] at q2
      rw [if_neg h2] at q3
      have z1 : (caE D1 == 0) = false := by simpa using h2
      have z2 : (caE D1 != 0) = true := by simpa using h2
      have z3 : decide (caE D1 = 0) = false := by simpa using h2
      have Q2 := hid (And.intro q1 (And.intro q2 q3))
      clear Q e1 e2 q1 q2 q3 h2
      generalize caE D1 = E3 at *
      go_wp2
      go_ret
      exact ⟨by rw [Q2.out.1]; rfl, by rw [Q2.out.2.1, Q2.out.2.2, HV.out]; exact HF.out, HY7.out⟩
  · obtain ⟨q1, q2, q3⟩ := HQ.out hz
    have z1 : (E1 == 0) = false := by simpa using hz
    have z2 : (E1 != 0) = true := by simpa using hz
    have z3 : decide (E1 = 0) = false := by simpa using hz
    have HF : Hid (On w (C (TC gd D1 gv V1 gc c)) w6 X) := hid (HC6.out.less fun x hx => .inl hx)
    have Q2 := hid (And.intro q1 (And.intro q2 q3))
    clear q1 q2 q3 hz HQ HP
    go_wp2
    go_ret
    exact ⟨by rw [Q2.out.1]; rfl, by rw [Q2.out.2.1, Q2.out.2.2, HV.out]; exact HF.out, HY6.out⟩
end Go.Proofs.Ytocmgdhgimpfhaa
