/- What bits.Put returns. Nothing is assumed. -/
import Derived.Test.YtejmllpffocneaaBtPm
import Derived.Test.YtejmllpffocneaaPkW1
import Derived.Deep.CutRange
namespace Go.Proofs.Ytejmllpffocneaa
open Go.RowKit

set_option maxRecDepth 100000 in
set_option maxHeartbeats 16000000 in
theorem btput_c {w : World} {n c : Nat} {A : Option Addr} {L : List Int} (h : Lst w 0 w.heap.size A n (ics L)) (hnc : n ≤ c) (hn : n ≤ 10000) (h64 : i64s L) :
    Calls Try.prog 7 #[.slice A n c] w (Row w (btP L)) := by
  have hl : L.length = n := by have := h.1; rwa [ics_len] at this
  by_cases h0 : n = 0
  · subst h0
    have hL : L = [] := List.eq_nil_of_length_eq_zero hl
    subst hL
    clear h hnc hn h64 hl
    go_enter Try.func7, Try.ntmps7
    go_wp2
    go_ret
    exact ⟨none, 0, rfl, Nat.le_refl _, own_nilrow _ _ _ _, Below.refl _ _⟩
  have hne : L ≠ [] := fun e => h0 (by rw [← hl, e]; rfl)
  have HNE := hid hne
  have HL := hid h
  have HNC := hid hnc
  have HN := hid (And.intro (Nat.pos_of_ne_zero h0) hn)
  have HLL := hid hl
  have H64 := hid h64
  have n1 : ((n : Int) == 0) = false := by simp; omega
  have n2 : ¬ (n : Int) = 0 := by omega
  clear h hnc hn h64 hl hne
  refine (callsIn_wide (n := 3)).1 ?_
  refine callsIn_of_wp_marks Try.func7 rfl trivial ?_ rfl
  simp only [Try.ntmps7, List.size_toArray, List.length_cons, List.length_nil, Nat.reduceAdd, Nat.reduceSub, Array.replicate_succ, Array.replicate_zero, List.push_toArray, List.append_toArray, List.nil_append, List.cons_append]
  refine wpIn_wide.2 ?_
  go_wp2_with fail
  refine (min_c HL.out HN.out.1 (by have := HN.out.2; omega)).mono ?_
  rintro e w1 ⟨rfl, rfl⟩
  obtain ⟨m, hm⟩ : ∃ m, mnL L = m := ⟨_, rfl⟩
  rw [hm]
  have HM := hid hm
  clear hm n1 n2 h0
  go_wp2_with fail
  obtain ⟨x, hx⟩ : ∃ x, mxL L = x := ⟨_, rfl⟩
  have HX := hid hx
  have HX64 : Hid (i64r x) := hid (by rw [← hx]; exact H64.out _ (mxL_in HNE.out))
  have HM64 : Hid (i64r m) := hid (by rw [← HM.out]; exact H64.out _ (mnL_in HNE.out))
  have HMX : Hid (m ≤ x) := hid (by rw [← HM.out]; exact mnL_le (by rw [← hx]; exact mxL_in HNE.out))
  obtain ⟨W, hW⟩ : ∃ W, Lib.bitLen (di x m) = W := ⟨_, rfl⟩
  have HWD := hid hW
  have HWL : Hid (wdL L = W) := hid (by unfold wdL; rw [HX.out, HM.out, HWD.out])
  have HW64 : Hid (W ≤ 64) := hid (by rw [← hW]; exact bl_le (di_lt HX64.out HM64.out))
  have HB3 : Hid (Blk (w.alloc (.cells #[.int .i64 m] 3)) w.heap.size 3 #[.int .i64 m]) := hid (Blk.new _ _ _)
  have HBA : Hid (Below w.heap.size w (w.alloc (.cells #[.int .i64 m] 3))) := hid ((Below.refl _ _).alloc (Nat.le_refl _) _)
  have HSZ : Hid (w.heap.size ≤ (w.alloc (.cells #[.int .i64 m] 3)).heap.size) := hid (by simp)
  clear hx hW
  generalize (w.alloc (.cells #[.int .i64 m] 3)) = w1 at *
  go_cut [4] from 12 to 15 (fun s4 wx => ∃ b4 : Nat, s4 = .pointer (some ⟨b4, 0, none⟩) ∧ Hid (Blk wx w.heap.size 3 #[.int .i64 m]) ∧ Hid (Blk wx b4 3 #[.int .i64 (W : Int)]) ∧ Hid (Below w.heap.size w wx))
  case first =>
    refine wp_only ?_
    refine wp_region_held_drew (S := fun wx => Below w1.heap.size w1 wx) (by kernel_rfl) (Below.refl _ _).drew (fun HS => ?_)
    refine qT 0 ?vq1_0 ?yq1_0 HS ?rq1_0
    case yq1_0 =>
      refine qI fun wS hSw => ?_
      have hx := ((hSw : Below _ _ _).cell (p := ⟨w.heap.size, 0, none⟩) HB3.out.lt).trans (HB3.out.cell 0)
      go_simp
      try with_reducible rfl
    try simp only [Act.put, zA, zB, zC]
    refine qT 1 ?vq2_1 ?yq2_1 HS ?rq2_1
    case yq2_1 =>
      refine qI fun wS hSw => ?_
      go_simp
      try with_reducible rfl
    try simp only [Act.put, zA, zB, zC]
    refine wpAnyH_ready (rs := [2, 4]) (by kernel_rfl) (by simp) ?_
    refine (AllReadyH.cons (o := ?ob3_2) ?hob3_2 (fun K hK => ?stepb3_2) (AllReadyH.cons (o := ?ob3_4) ?hob3_4 (fun K hK => ?stepb3_4) AllReadyH.nil))
    case hob3_2 => simp only [zD, zE, zF]; exact rfl
    case hob3_4 => simp only [zD, zE, zF]; exact rfl
    case stepb3_2 =>
      go_simp
      refine (max_c (w := w1.drew) ((HL.out.below (HBA.out.trans ((HS : Below _ _ _).mono HSZ.out)) (Nat.le_refl _)).wide (Nat.le_refl _) (HBA.out.trans ((HS : Below _ _ _).mono HSZ.out)).size) HN.out.1 (by have := HN.out.2; omega)).mono ?_
      rintro e wz ⟨rfl, rfl⟩
      rw [HX.out]
      refine hK.out _ _ HS (fun HS => ?_)
      clear hK K
      try simp only [Act.put, zA, zB, zC]
      refine wpAnyH_ready (rs := [3, 4]) (by kernel_rfl) (by simp) ?_
      refine (AllReadyH.cons (o := ?ob4_3) ?hob4_3 (fun K hK => ?stepb4_3) (AllReadyH.cons (o := ?ob4_4) ?hob4_4 (fun K hK => ?stepb4_4) AllReadyH.nil))
      case hob4_3 => simp only [zD, zE, zF]; exact rfl
      case hob4_4 => simp only [zD, zE, zF]; exact rfl
      case stepb4_3 =>
        go_simp
        refine (widthOf_c w1.drew HX64.out HM64.out HMX.out).mono ?_
        rintro e wz ⟨rfl, rfl⟩
        rw [HWD.out]
        refine hK.out _ _ HS (fun HS => ?_)
        clear hK K
        try simp only [Act.put, zA, zB, zC]
        refine qR 4 fun K hK => ?_
        go_simp
        refine hK.out _ _ ((Below.refl w1.heap.size w1).alloc (Nat.le_refl _) _).drew (fun HS => ?_)
        clear hK K
        try simp only [Act.put, zA, zB, zC]
        refine qR 5 fun K hK => ?_
        go_simp
        refine hK.out _ _ ((Below.refl w1.heap.size w1).alloc (Nat.le_refl _) _).drew (fun HS => ?_)
        clear hK K
        try simp only [Act.put]
        refine wpAnyH_done (by kernel_rfl) ?_ _
        clear HS
        dsimp only [onlyN]
        go_wp2_with fail
        go_meet
        case rel =>
          have hb := ((Below.refl w1.heap.size w1).alloc (Nat.le_refl _) (.cells #[.int .i64 (W : Int)] 3)).drew
          exact ⟨w1.heap.size, rfl, hid (HB3.out.keep (hb.block _ HB3.out.lt)), hid (Blk.new w1 3 #[.int .i64 (W : Int)]), hid (HBA.out.trans (hb.mono HSZ.out))⟩
      case stepb4_4 =>
        go_simp
        refine hK.out _ _ ((Below.refl w1.heap.size w1).alloc (Nat.le_refl _) _).drew (fun HS => ?_)
        clear hK K
        try simp only [Act.put, zA, zB, zC]
        refine qR 3 fun K hK => ?_
        go_simp
        refine (widthOf_c (w1.alloc (.cells #[.int .i64 0] 3)).drew HX64.out HM64.out HMX.out).mono ?_
        rintro e wz ⟨rfl, rfl⟩
        rw [HWD.out]
        refine hK.out _ _ HS (fun HS => ?_)
        clear hK K
        try simp only [Act.put, zA, zB, zC]
        refine qR 5 fun K hK => ?_
        go_simp
        refine hK.out _ _ ((Below.refl w1.heap.size w1).alloc (Nat.le_refl _) _).drew (fun HS => ?_)
        clear hK K
        try simp only [Act.put]
        refine wpAnyH_done (by kernel_rfl) ?_ _
        clear HS
        dsimp only [onlyN]
        go_wp2_with fail
        go_meet
        case rel =>
          have hb := ((Below.refl w1.heap.size w1).alloc (Nat.le_refl _) (.cells #[.int .i64 (W : Int)] 3)).drew
          exact ⟨w1.heap.size, rfl, hid (HB3.out.keep (hb.block _ HB3.out.lt)), hid (Blk.new w1 3 #[.int .i64 (W : Int)]), hid (HBA.out.trans (hb.mono HSZ.out))⟩
    case stepb3_4 =>
      go_simp
      refine hK.out _ _ ((Below.refl w1.heap.size w1).alloc (Nat.le_refl _) _).drew (fun HS => ?_)
      clear hK K
      try simp only [Act.put, zA, zB, zC]
      refine qR 2 fun K hK => ?_
      go_simp
      refine (max_c (w := (w1.alloc (.cells #[.int .i64 0] 3)).drew) ((HL.out.below (HBA.out.trans ((HS : Below _ _ _).mono HSZ.out)) (Nat.le_refl _)).wide (Nat.le_refl _) (HBA.out.trans ((HS : Below _ _ _).mono HSZ.out)).size) HN.out.1 (by have := HN.out.2; omega)).mono ?_
      rintro e wz ⟨rfl, rfl⟩
      rw [HX.out]
      refine hK.out _ _ HS (fun HS => ?_)
      clear hK K
      try simp only [Act.put, zA, zB, zC]
      refine qR 3 fun K hK => ?_
      go_simp
      refine (widthOf_c (w1.alloc (.cells #[.int .i64 0] 3)).drew HX64.out HM64.out HMX.out).mono ?_
      rintro e wz ⟨rfl, rfl⟩
      rw [HWD.out]
      refine hK.out _ _ HS (fun HS => ?_)
      clear hK K
      try simp only [Act.put, zA, zB, zC]
      refine qR 5 fun K hK => ?_
      go_simp
      refine hK.out _ _ ((Below.refl w1.heap.size w1).alloc (Nat.le_refl _) _).drew (fun HS => ?_)
      clear hK K
      try simp only [Act.put]
      refine wpAnyH_done (by kernel_rfl) ?_ _
      clear HS
      dsimp only [onlyN]
      go_wp2_with fail
      go_meet
      case rel =>
        have hb := ((Below.refl w1.heap.size w1).alloc (Nat.le_refl _) (.cells #[.int .i64 (W : Int)] 3)).drew
        exact ⟨w1.heap.size, rfl, hid (HB3.out.keep (hb.block _ HB3.out.lt)), hid (Blk.new w1 3 #[.int .i64 (W : Int)]), hid (HBA.out.trans (hb.mono HSZ.out))⟩
  case rest =>
  obtain ⟨b4, rfl, hB3, hB4, hBA⟩ := hcut
  clear HB3 HBA HSZ
  go_wp2_with fail
  obtain ⟨hd, hhd⟩ : ∃ hd, nat (fold m) = hd := ⟨_, rfl⟩
  have HHD := hid hhd
  have HNUM : Hid (∀ wz : World, Calls Try.prog 12 #[.slice none 0 0, .int .i64 m] wz (Row wz hd)) := hid (fun wz => by
    have := number_c none 0 0 m [] wz (Bts.nil _ _ _ _) (by decide) HM64.out.1 HM64.out.2
    rwa [List.nil_append, hhd] at this)
  obtain ⟨nh, hnh⟩ : ∃ nh, hd.length = nh := ⟨_, rfl⟩
  have HNH : Hid (hd.length = nh ∧ nh ≤ 10) := hid ⟨hnh, by rw [← hnh, ← hhd]; exact nat_len_u64 (fold_lt HM64.out.1 HM64.out.2)⟩
  have w8 : IntKind.u8.wrap (W : Int) = (W : Int) := IntWalk.u8_in _ (by have := HW64.out; omega)
  have HW8 : Hid ((UInt8.ofNat W).toNat = W) := hid (by rw [UInt8.toNat_ofNat', Nat.mod_eq_of_lt (by have := HW64.out; omega)])
  clear hhd hnh
  go_cut [5] from 16 to 21 (fun s5 wx => ∃ (b5 : Nat) (A2 : Option Addr) (c2 : Nat), s5 = .pointer (some ⟨b5, 0, none⟩) ∧ Hid (w.heap.size ≤ b5) ∧ Hid (Blk wx b5 24 #[.slice A2 (nh + 1) c2]) ∧ Hid (wx.ownsRow w.heap.size 5 1 (.slice A2 (nh + 1) c2) (nh + 1) (bs (hd ++ [UInt8.ofNat W]))) ∧ Hid (Blk wx w.heap.size 3 #[.int .i64 m]) ∧ Hid (Blk wx b4 3 #[.int .i64 (W : Int)]) ∧ Hid (Below w.heap.size w wx))
  case first =>
    refine wp_only ?_
    refine wp_region_held_drew (S := fun wx => Below wc.heap.size wc wx) (by kernel_rfl) (Below.refl _ _).drew (fun HS => ?_)
    have HSv0 : Hid (Below wc.heap.size wc wc.drew) := hid HS
    generalize wc.drew = v0 at *
    refine qT 0 ?vq5_0 ?yq5_0 HS ?rq5_0
    case yq5_0 =>
      refine qI fun wS hSw => ?_
      have hx := ((hSw : Below _ _ _).cell (p := ⟨w.heap.size, 0, none⟩) hB3.out.lt).trans (hB3.out.cell 0)
      go_simp
      try with_reducible rfl
    try simp only [Act.put, zA, zB, zC]
    refine qT 2 ?vq6_2 ?yq6_2 HS ?rq6_2
    case yq6_2 =>
      refine qI fun wS hSw => ?_
      have hx := ((hSw : Below _ _ _).cell (p := ⟨b4, 0, none⟩) hB4.out.lt).trans (hB4.out.cell 0)
      go_simp
      try with_reducible rfl
    try simp only [Act.put, zA, zB, zC]
    refine qT 3 ?vq7_3 ?yq7_3 HS ?rq7_3
    case yq7_3 =>
      refine qI fun wS hSw => ?_
      go_simp
      try with_reducible rfl
    try simp only [Act.put, zA, zB, zC]
    refine wpAnyH_ready (rs := [1, 4, 6]) (by kernel_rfl) (by simp) ?_
    refine (AllReadyH.cons (o := ?ob8_1) ?hob8_1 (fun K hK => ?stepb8_1) (AllReadyH.cons (o := ?ob8_4) ?hob8_4 (fun K hK => ?stepb8_4) (AllReadyH.cons (o := ?ob8_6) ?hob8_6 (fun K hK => ?stepb8_6) AllReadyH.nil)))
    case hob8_1 => simp only [zD, zE, zF]; exact rfl
    case hob8_4 => simp only [zD, zE, zF]; exact rfl
    case hob8_6 => simp only [zD, zE, zF]; exact rfl
    case stepb8_1 =>
      go_simp
      refine (HNUM.out v0).mono ?_
      rintro e v1 ⟨A1, c1, rfl, hc1, ho1, hb1⟩
      rw [HNH.out.1] at ho1 hc1 ⊢
      have HSv1 : Hid (Below wc.heap.size wc v1) := hid (HSv0.out.trans (hb1.mono HSv0.out.size))
      have HRv1 := hid (own_lower ho1 HSv0.out.size)
      clear ho1 hb1 hc1
      refine hK.out _ _ HSv1.out (fun HS => ?_)
      clear hK K
      try simp only [Act.put, zA, zB, zC]
      refine wpAnyH_ready (rs := [4, 6]) (by kernel_rfl) (by simp) ?_
      refine (AllReadyH.cons (o := ?ob9_4) ?hob9_4 (fun K hK => ?stepb9_4) (AllReadyH.cons (o := ?ob9_6) ?hob9_6 (fun K hK => ?stepb9_6) AllReadyH.nil))
      case hob9_4 => simp only [zD, zE, zF]; exact rfl
      case hob9_6 => simp only [zD, zE, zF]; exact rfl
      case stepb9_4 =>
        rw [if_pos (by rfl)]
        refine wp_build1B (.tmp 19) rfl (UInt8.ofNat W) (by rw [HW8.out]; rfl) ?_
        intro v2 hs1 hk1 hb1
        have HSv2 : Hid (Below wc.heap.size wc v2) := hid (HSv1.out.trans (hb1.mono HSv1.out.size))
        have HRv2 := hid (own_keep HRv1.out fun d hd => hb1.block d (own_lt HRv1.out d hd))
        have HTv2 := hid hk1
        have HGTv2 : Hid (wc.heap.size ≤ v1.heap.size) := hid HSv1.out.size
        clear hs1 hk1 hb1
        refine hK.out _ _ HSv2.out (fun HS => ?_)
        clear hK K
        try simp only [Act.put, zA, zB, zC]
        refine wpAnyH_ready (rs := [5, 6]) (by kernel_rfl) (by simp) ?_
        refine (AllReadyH.cons (o := ?ob10_5) ?hob10_5 (fun K hK => ?stepb10_5) (AllReadyH.cons (o := ?ob10_6) ?hob10_6 (fun K hK => ?stepb10_6) AllReadyH.nil))
        case hob10_5 => simp only [zD, zE, zF]; exact rfl
        case hob10_6 => simp only [zD, zE, zF]; exact rfl
        case stepb10_5 =>
          rw [if_pos (by rfl)]
          refine wp_appB (.tmp 17) (.tmp 20) rfl wc.heap.size A1 nh c1 (bs hd) rfl HRv2.out _ _ (some ⟨v1.heap.size, 0, none⟩) 1 1 _ rfl HTv2.out.lst1 (by simp [Value.oneCell']) (by have := HNH.out.2; omega) HSv2.out.size ?_
          intro A2 c2 v3 hc2 ho2 hb2 hg2
          have HSv3 : Hid (Below wc.heap.size wc v3) := hid (HSv2.out.trans hb2)
          have HRv3 := hid ho2
          clear hc2 ho2 hb2 hg2
          refine hK.out _ _ HSv3.out (fun HS => ?_)
          clear hK K
          try simp only [Act.put, zA, zB, zC]
          refine qR 6 fun K hK => ?_
          rw [if_pos (by rfl)]
          refine wp_allocB rfl ?_
          intro v4 hs1 hk1 hb1
          have HSv4 : Hid (Below wc.heap.size wc v4) := hid (HSv3.out.trans (hb1.mono HSv3.out.size))
          have HRv4 := hid (own_keep HRv3.out fun d hd => hb1.block d (own_lt HRv3.out d hd))
          have HXv4 := hid hk1
          have HGXv4 : Hid (wc.heap.size ≤ v3.heap.size) := hid HSv3.out.size
          clear hs1 hk1 hb1
          refine hK.out _ _ HSv4.out (fun HS => ?_)
          clear hK K
          try simp only [Act.put, zA, zB, zC]
          refine qR 7 fun K hK => ?_
          rw [if_pos (by rfl)]
          refine wp_storeB (.tmp 5) (.tmp 21) rfl v3.heap.size rfl A2 (nh + 1) c2 rfl _ HXv4.out ?_
          intro v5 hs3 hk3 hg3
          have HSv5 : Hid (Below wc.heap.size wc v5) := hid (HSv4.out.grown hg3 HSv4.out.size fun k hk => by injection hk with hk; rw [← hk]; exact HGXv4.out)
          have HRv5 := hid (own_grown HRv4.out hg3 (blk_ne_row HXv4.out (by decide) HRv4.out))
          have HXv5 := hid hk3
          clear hs3 hk3 hg3
          refine hK.out _ _ HSv5.out (fun HS => ?_)
          clear hK K
          try simp only [Act.put]
          refine wpAnyH_done (by kernel_rfl) ?_ _
          clear HS
          dsimp only [onlyN]
          go_wp2_with fail
          go_meet
          case rel =>
            exact ⟨v3.heap.size, A2, c2, rfl, hid (Nat.le_trans hBA.out.size HGXv4.out), HXv5, hid (by rw [bs_app]; exact own_lower HRv5.out hBA.out.size), hid (hB3.out.keep (HSv5.out.block _ hB3.out.lt)), hid (hB4.out.keep (HSv5.out.block _ hB4.out.lt)), hid (hBA.out.trans (HSv5.out.mono hBA.out.size))⟩
        case stepb10_6 =>
          rw [if_pos (by rfl)]
          refine wp_allocB rfl ?_
          intro v6 hs1 hk1 hb1
          have HSv6 : Hid (Below wc.heap.size wc v6) := hid (HSv2.out.trans (hb1.mono HSv2.out.size))
          have HRv6 := hid (own_keep HRv2.out fun d hd => hb1.block d (own_lt HRv2.out d hd))
          have HTv6 := hid (HTv2.out.keep (hb1.block _ HTv2.out.lt))
          have HXv6 := hid hk1
          have HGXv6 : Hid (wc.heap.size ≤ v2.heap.size) := hid HSv2.out.size
          clear hs1 hk1 hb1
          refine hK.out _ _ HSv6.out (fun HS => ?_)
          clear hK K
          try simp only [Act.put, zA, zB, zC]
          refine qR 5 fun K hK => ?_
          rw [if_pos (by rfl)]
          refine wp_appB (.tmp 17) (.tmp 20) rfl wc.heap.size A1 nh c1 (bs hd) rfl HRv6.out _ _ (some ⟨v1.heap.size, 0, none⟩) 1 1 _ rfl HTv6.out.lst1 (by simp [Value.oneCell']) (by have := HNH.out.2; omega) HSv6.out.size ?_
          intro A2 c2 v7 hc2 ho2 hb2 hg2
          have HSv7 : Hid (Below wc.heap.size wc v7) := hid (HSv6.out.trans hb2)
          have HRv7 := hid ho2
          have HXv7 := hid (HXv6.out.grown hg2 (blk_ne_row HXv6.out (by decide) HRv6.out))
          clear hc2 ho2 hb2 hg2
          refine hK.out _ _ HSv7.out (fun HS => ?_)
          clear hK K
          try simp only [Act.put, zA, zB, zC]
          refine qR 7 fun K hK => ?_
          rw [if_pos (by rfl)]
          refine wp_storeB (.tmp 5) (.tmp 21) rfl v2.heap.size rfl A2 (nh + 1) c2 rfl _ HXv7.out ?_
          intro v8 hs3 hk3 hg3
          have HSv8 : Hid (Below wc.heap.size wc v8) := hid (HSv7.out.grown hg3 HSv7.out.size fun k hk => by injection hk with hk; rw [← hk]; exact HGXv6.out)
          have HRv8 := hid (own_grown HRv7.out hg3 (blk_ne_row HXv7.out (by decide) HRv7.out))
          have HXv8 := hid hk3
          clear hs3 hk3 hg3
          refine hK.out _ _ HSv8.out (fun HS => ?_)
          clear hK K
          try simp only [Act.put]
          refine wpAnyH_done (by kernel_rfl) ?_ _
          clear HS
          dsimp only [onlyN]
          go_wp2_with fail
          go_meet
          case rel =>
            exact ⟨v2.heap.size, A2, c2, rfl, hid (Nat.le_trans hBA.out.size HGXv6.out), HXv8, hid (by rw [bs_app]; exact own_lower HRv8.out hBA.out.size), hid (hB3.out.keep (HSv8.out.block _ hB3.out.lt)), hid (hB4.out.keep (HSv8.out.block _ hB4.out.lt)), hid (hBA.out.trans (HSv8.out.mono hBA.out.size))⟩
      case stepb9_6 =>
        rw [if_pos (by rfl)]
        refine wp_allocB rfl ?_
        intro v9 hs1 hk1 hb1
        have HSv9 : Hid (Below wc.heap.size wc v9) := hid (HSv1.out.trans (hb1.mono HSv1.out.size))
        have HRv9 := hid (own_keep HRv1.out fun d hd => hb1.block d (own_lt HRv1.out d hd))
        have HXv9 := hid hk1
        have HGXv9 : Hid (wc.heap.size ≤ v1.heap.size) := hid HSv1.out.size
        clear hs1 hk1 hb1
        refine hK.out _ _ HSv9.out (fun HS => ?_)
        clear hK K
        try simp only [Act.put, zA, zB, zC]
        refine qR 4 fun K hK => ?_
        rw [if_pos (by rfl)]
        refine wp_build1B (.tmp 19) rfl (UInt8.ofNat W) (by rw [HW8.out]; rfl) ?_
        intro v10 hs1 hk1 hb1
        have HSv10 : Hid (Below wc.heap.size wc v10) := hid (HSv9.out.trans (hb1.mono HSv9.out.size))
        have HRv10 := hid (own_keep HRv9.out fun d hd => hb1.block d (own_lt HRv9.out d hd))
        have HXv10 := hid (HXv9.out.keep (hb1.block _ HXv9.out.lt))
        have HTv10 := hid hk1
        have HGTv10 : Hid (wc.heap.size ≤ v9.heap.size) := hid HSv9.out.size
        clear hs1 hk1 hb1
        refine hK.out _ _ HSv10.out (fun HS => ?_)
        clear hK K
        try simp only [Act.put, zA, zB, zC]
        refine qR 5 fun K hK => ?_
        rw [if_pos (by rfl)]
        refine wp_appB (.tmp 17) (.tmp 20) rfl wc.heap.size A1 nh c1 (bs hd) rfl HRv10.out _ _ (some ⟨v9.heap.size, 0, none⟩) 1 1 _ rfl HTv10.out.lst1 (by simp [Value.oneCell']) (by have := HNH.out.2; omega) HSv10.out.size ?_
        intro A2 c2 v11 hc2 ho2 hb2 hg2
        have HSv11 : Hid (Below wc.heap.size wc v11) := hid (HSv10.out.trans hb2)
        have HRv11 := hid ho2
        have HXv11 := hid (HXv10.out.grown hg2 (blk_ne_row HXv10.out (by decide) HRv10.out))
        clear hc2 ho2 hb2 hg2
        refine hK.out _ _ HSv11.out (fun HS => ?_)
        clear hK K
        try simp only [Act.put, zA, zB, zC]
        refine qR 7 fun K hK => ?_
        rw [if_pos (by rfl)]
        refine wp_storeB (.tmp 5) (.tmp 21) rfl v1.heap.size rfl A2 (nh + 1) c2 rfl _ HXv11.out ?_
        intro v12 hs3 hk3 hg3
        have HSv12 : Hid (Below wc.heap.size wc v12) := hid (HSv11.out.grown hg3 HSv11.out.size fun k hk => by injection hk with hk; rw [← hk]; exact HGXv9.out)
        have HRv12 := hid (own_grown HRv11.out hg3 (blk_ne_row HXv11.out (by decide) HRv11.out))
        have HXv12 := hid hk3
        clear hs3 hk3 hg3
        refine hK.out _ _ HSv12.out (fun HS => ?_)
        clear hK K
        try simp only [Act.put]
        refine wpAnyH_done (by kernel_rfl) ?_ _
        clear HS
        dsimp only [onlyN]
        go_wp2_with fail
        go_meet
        case rel =>
          exact ⟨v1.heap.size, A2, c2, rfl, hid (Nat.le_trans hBA.out.size HGXv9.out), HXv12, hid (by rw [bs_app]; exact own_lower HRv12.out hBA.out.size), hid (hB3.out.keep (HSv12.out.block _ hB3.out.lt)), hid (hB4.out.keep (HSv12.out.block _ hB4.out.lt)), hid (hBA.out.trans (HSv12.out.mono hBA.out.size))⟩
    case stepb8_4 =>
      rw [if_pos (by rfl)]
      refine wp_build1B (.tmp 19) rfl (UInt8.ofNat W) (by rw [HW8.out]; rfl) ?_
      intro v13 hs1 hk1 hb1
      have HSv13 : Hid (Below wc.heap.size wc v13) := hid (HSv0.out.trans (hb1.mono HSv0.out.size))
      have HTv13 := hid hk1
      have HGTv13 : Hid (wc.heap.size ≤ v0.heap.size) := hid HSv0.out.size
      clear hs1 hk1 hb1
      refine hK.out _ _ HSv13.out (fun HS => ?_)
      clear hK K
      try simp only [Act.put, zA, zB, zC]
      refine wpAnyH_ready (rs := [1, 6]) (by kernel_rfl) (by simp) ?_
      refine (AllReadyH.cons (o := ?ob11_1) ?hob11_1 (fun K hK => ?stepb11_1) (AllReadyH.cons (o := ?ob11_6) ?hob11_6 (fun K hK => ?stepb11_6) AllReadyH.nil))
      case hob11_1 => simp only [zD, zE, zF]; exact rfl
      case hob11_6 => simp only [zD, zE, zF]; exact rfl
      case stepb11_1 =>
        go_simp
        refine (HNUM.out v13).mono ?_
        rintro e v14 ⟨A1, c1, rfl, hc1, ho1, hb1⟩
        rw [HNH.out.1] at ho1 hc1 ⊢
        have HSv14 : Hid (Below wc.heap.size wc v14) := hid (HSv13.out.trans (hb1.mono HSv13.out.size))
        have HTv14 := hid (HTv13.out.keep (hb1.block _ HTv13.out.lt))
        have HRv14 := hid (own_lower ho1 HSv13.out.size)
        clear ho1 hb1 hc1
        refine hK.out _ _ HSv14.out (fun HS => ?_)
        clear hK K
        try simp only [Act.put, zA, zB, zC]
        refine wpAnyH_ready (rs := [5, 6]) (by kernel_rfl) (by simp) ?_
        refine (AllReadyH.cons (o := ?ob12_5) ?hob12_5 (fun K hK => ?stepb12_5) (AllReadyH.cons (o := ?ob12_6) ?hob12_6 (fun K hK => ?stepb12_6) AllReadyH.nil))
        case hob12_5 => simp only [zD, zE, zF]; exact rfl
        case hob12_6 => simp only [zD, zE, zF]; exact rfl
        case stepb12_5 =>
          rw [if_pos (by rfl)]
          refine wp_appB (.tmp 17) (.tmp 20) rfl wc.heap.size A1 nh c1 (bs hd) rfl HRv14.out _ _ (some ⟨v0.heap.size, 0, none⟩) 1 1 _ rfl HTv14.out.lst1 (by simp [Value.oneCell']) (by have := HNH.out.2; omega) HSv14.out.size ?_
          intro A2 c2 v15 hc2 ho2 hb2 hg2
          have HSv15 : Hid (Below wc.heap.size wc v15) := hid (HSv14.out.trans hb2)
          have HRv15 := hid ho2
          clear hc2 ho2 hb2 hg2
          refine hK.out _ _ HSv15.out (fun HS => ?_)
          clear hK K
          try simp only [Act.put, zA, zB, zC]
          refine qR 6 fun K hK => ?_
          rw [if_pos (by rfl)]
          refine wp_allocB rfl ?_
          intro v16 hs1 hk1 hb1
          have HSv16 : Hid (Below wc.heap.size wc v16) := hid (HSv15.out.trans (hb1.mono HSv15.out.size))
          have HRv16 := hid (own_keep HRv15.out fun d hd => hb1.block d (own_lt HRv15.out d hd))
          have HXv16 := hid hk1
          have HGXv16 : Hid (wc.heap.size ≤ v15.heap.size) := hid HSv15.out.size
          clear hs1 hk1 hb1
          refine hK.out _ _ HSv16.out (fun HS => ?_)
          clear hK K
          try simp only [Act.put, zA, zB, zC]
          refine qR 7 fun K hK => ?_
          rw [if_pos (by rfl)]
          refine wp_storeB (.tmp 5) (.tmp 21) rfl v15.heap.size rfl A2 (nh + 1) c2 rfl _ HXv16.out ?_
          intro v17 hs3 hk3 hg3
          have HSv17 : Hid (Below wc.heap.size wc v17) := hid (HSv16.out.grown hg3 HSv16.out.size fun k hk => by injection hk with hk; rw [← hk]; exact HGXv16.out)
          have HRv17 := hid (own_grown HRv16.out hg3 (blk_ne_row HXv16.out (by decide) HRv16.out))
          have HXv17 := hid hk3
          clear hs3 hk3 hg3
          refine hK.out _ _ HSv17.out (fun HS => ?_)
          clear hK K
          try simp only [Act.put]
          refine wpAnyH_done (by kernel_rfl) ?_ _
          clear HS
          dsimp only [onlyN]
          go_wp2_with fail
          go_meet
          case rel =>
            exact ⟨v15.heap.size, A2, c2, rfl, hid (Nat.le_trans hBA.out.size HGXv16.out), HXv17, hid (by rw [bs_app]; exact own_lower HRv17.out hBA.out.size), hid (hB3.out.keep (HSv17.out.block _ hB3.out.lt)), hid (hB4.out.keep (HSv17.out.block _ hB4.out.lt)), hid (hBA.out.trans (HSv17.out.mono hBA.out.size))⟩
        case stepb12_6 =>
          rw [if_pos (by rfl)]
          refine wp_allocB rfl ?_
          intro v18 hs1 hk1 hb1
          have HSv18 : Hid (Below wc.heap.size wc v18) := hid (HSv14.out.trans (hb1.mono HSv14.out.size))
          have HRv18 := hid (own_keep HRv14.out fun d hd => hb1.block d (own_lt HRv14.out d hd))
          have HTv18 := hid (HTv14.out.keep (hb1.block _ HTv14.out.lt))
          have HXv18 := hid hk1
          have HGXv18 : Hid (wc.heap.size ≤ v14.heap.size) := hid HSv14.out.size
          clear hs1 hk1 hb1
          refine hK.out _ _ HSv18.out (fun HS => ?_)
          clear hK K
          try simp only [Act.put, zA, zB, zC]
          refine qR 5 fun K hK => ?_
          rw [if_pos (by rfl)]
          refine wp_appB (.tmp 17) (.tmp 20) rfl wc.heap.size A1 nh c1 (bs hd) rfl HRv18.out _ _ (some ⟨v0.heap.size, 0, none⟩) 1 1 _ rfl HTv18.out.lst1 (by simp [Value.oneCell']) (by have := HNH.out.2; omega) HSv18.out.size ?_
          intro A2 c2 v19 hc2 ho2 hb2 hg2
          have HSv19 : Hid (Below wc.heap.size wc v19) := hid (HSv18.out.trans hb2)
          have HRv19 := hid ho2
          have HXv19 := hid (HXv18.out.grown hg2 (blk_ne_row HXv18.out (by decide) HRv18.out))
          clear hc2 ho2 hb2 hg2
          refine hK.out _ _ HSv19.out (fun HS => ?_)
          clear hK K
          try simp only [Act.put, zA, zB, zC]
          refine qR 7 fun K hK => ?_
          rw [if_pos (by rfl)]
          refine wp_storeB (.tmp 5) (.tmp 21) rfl v14.heap.size rfl A2 (nh + 1) c2 rfl _ HXv19.out ?_
          intro v20 hs3 hk3 hg3
          have HSv20 : Hid (Below wc.heap.size wc v20) := hid (HSv19.out.grown hg3 HSv19.out.size fun k hk => by injection hk with hk; rw [← hk]; exact HGXv18.out)
          have HRv20 := hid (own_grown HRv19.out hg3 (blk_ne_row HXv19.out (by decide) HRv19.out))
          have HXv20 := hid hk3
          clear hs3 hk3 hg3
          refine hK.out _ _ HSv20.out (fun HS => ?_)
          clear hK K
          try simp only [Act.put]
          refine wpAnyH_done (by kernel_rfl) ?_ _
          clear HS
          dsimp only [onlyN]
          go_wp2_with fail
          go_meet
          case rel =>
            exact ⟨v14.heap.size, A2, c2, rfl, hid (Nat.le_trans hBA.out.size HGXv18.out), HXv20, hid (by rw [bs_app]; exact own_lower HRv20.out hBA.out.size), hid (hB3.out.keep (HSv20.out.block _ hB3.out.lt)), hid (hB4.out.keep (HSv20.out.block _ hB4.out.lt)), hid (hBA.out.trans (HSv20.out.mono hBA.out.size))⟩
      case stepb11_6 =>
        rw [if_pos (by rfl)]
        refine wp_allocB rfl ?_
        intro v21 hs1 hk1 hb1
        have HSv21 : Hid (Below wc.heap.size wc v21) := hid (HSv13.out.trans (hb1.mono HSv13.out.size))
        have HTv21 := hid (HTv13.out.keep (hb1.block _ HTv13.out.lt))
        have HXv21 := hid hk1
        have HGXv21 : Hid (wc.heap.size ≤ v13.heap.size) := hid HSv13.out.size
        clear hs1 hk1 hb1
        refine hK.out _ _ HSv21.out (fun HS => ?_)
        clear hK K
        try simp only [Act.put, zA, zB, zC]
        refine qR 1 fun K hK => ?_
        go_simp
        refine (HNUM.out v21).mono ?_
        rintro e v22 ⟨A1, c1, rfl, hc1, ho1, hb1⟩
        rw [HNH.out.1] at ho1 hc1 ⊢
        have HSv22 : Hid (Below wc.heap.size wc v22) := hid (HSv21.out.trans (hb1.mono HSv21.out.size))
        have HTv22 := hid (HTv21.out.keep (hb1.block _ HTv21.out.lt))
        have HXv22 := hid (HXv21.out.keep (hb1.block _ HXv21.out.lt))
        have HRv22 := hid (own_lower ho1 HSv21.out.size)
        clear ho1 hb1 hc1
        refine hK.out _ _ HSv22.out (fun HS => ?_)
        clear hK K
        try simp only [Act.put, zA, zB, zC]
        refine qR 5 fun K hK => ?_
        rw [if_pos (by rfl)]
        refine wp_appB (.tmp 17) (.tmp 20) rfl wc.heap.size A1 nh c1 (bs hd) rfl HRv22.out _ _ (some ⟨v0.heap.size, 0, none⟩) 1 1 _ rfl HTv22.out.lst1 (by simp [Value.oneCell']) (by have := HNH.out.2; omega) HSv22.out.size ?_
        intro A2 c2 v23 hc2 ho2 hb2 hg2
        have HSv23 : Hid (Below wc.heap.size wc v23) := hid (HSv22.out.trans hb2)
        have HRv23 := hid ho2
        have HXv23 := hid (HXv22.out.grown hg2 (blk_ne_row HXv22.out (by decide) HRv22.out))
        clear hc2 ho2 hb2 hg2
        refine hK.out _ _ HSv23.out (fun HS => ?_)
        clear hK K
        try simp only [Act.put, zA, zB, zC]
        refine qR 7 fun K hK => ?_
        rw [if_pos (by rfl)]
        refine wp_storeB (.tmp 5) (.tmp 21) rfl v13.heap.size rfl A2 (nh + 1) c2 rfl _ HXv23.out ?_
        intro v24 hs3 hk3 hg3
        have HSv24 : Hid (Below wc.heap.size wc v24) := hid (HSv23.out.grown hg3 HSv23.out.size fun k hk => by injection hk with hk; rw [← hk]; exact HGXv21.out)
        have HRv24 := hid (own_grown HRv23.out hg3 (blk_ne_row HXv23.out (by decide) HRv23.out))
        have HXv24 := hid hk3
        clear hs3 hk3 hg3
        refine hK.out _ _ HSv24.out (fun HS => ?_)
        clear hK K
        try simp only [Act.put]
        refine wpAnyH_done (by kernel_rfl) ?_ _
        clear HS
        dsimp only [onlyN]
        go_wp2_with fail
        go_meet
        case rel =>
          exact ⟨v13.heap.size, A2, c2, rfl, hid (Nat.le_trans hBA.out.size HGXv21.out), HXv24, hid (by rw [bs_app]; exact own_lower HRv24.out hBA.out.size), hid (hB3.out.keep (HSv24.out.block _ hB3.out.lt)), hid (hB4.out.keep (HSv24.out.block _ hB4.out.lt)), hid (hBA.out.trans (HSv24.out.mono hBA.out.size))⟩
    case stepb8_6 =>
      rw [if_pos (by rfl)]
      refine wp_allocB rfl ?_
      intro v25 hs1 hk1 hb1
      have HSv25 : Hid (Below wc.heap.size wc v25) := hid (HSv0.out.trans (hb1.mono HSv0.out.size))
      have HXv25 := hid hk1
      have HGXv25 : Hid (wc.heap.size ≤ v0.heap.size) := hid HSv0.out.size
      clear hs1 hk1 hb1
      refine hK.out _ _ HSv25.out (fun HS => ?_)
      clear hK K
      try simp only [Act.put, zA, zB, zC]
      refine wpAnyH_ready (rs := [1, 4]) (by kernel_rfl) (by simp) ?_
      refine (AllReadyH.cons (o := ?ob13_1) ?hob13_1 (fun K hK => ?stepb13_1) (AllReadyH.cons (o := ?ob13_4) ?hob13_4 (fun K hK => ?stepb13_4) AllReadyH.nil))
      case hob13_1 => simp only [zD, zE, zF]; exact rfl
      case hob13_4 => simp only [zD, zE, zF]; exact rfl
      case stepb13_1 =>
        go_simp
        refine (HNUM.out v25).mono ?_
        rintro e v26 ⟨A1, c1, rfl, hc1, ho1, hb1⟩
        rw [HNH.out.1] at ho1 hc1 ⊢
        have HSv26 : Hid (Below wc.heap.size wc v26) := hid (HSv25.out.trans (hb1.mono HSv25.out.size))
        have HXv26 := hid (HXv25.out.keep (hb1.block _ HXv25.out.lt))
        have HRv26 := hid (own_lower ho1 HSv25.out.size)
        clear ho1 hb1 hc1
        refine hK.out _ _ HSv26.out (fun HS => ?_)
        clear hK K
        try simp only [Act.put, zA, zB, zC]
        refine qR 4 fun K hK => ?_
        rw [if_pos (by rfl)]
        refine wp_build1B (.tmp 19) rfl (UInt8.ofNat W) (by rw [HW8.out]; rfl) ?_
        intro v27 hs1 hk1 hb1
        have HSv27 : Hid (Below wc.heap.size wc v27) := hid (HSv26.out.trans (hb1.mono HSv26.out.size))
        have HRv27 := hid (own_keep HRv26.out fun d hd => hb1.block d (own_lt HRv26.out d hd))
        have HXv27 := hid (HXv26.out.keep (hb1.block _ HXv26.out.lt))
        have HTv27 := hid hk1
        have HGTv27 : Hid (wc.heap.size ≤ v26.heap.size) := hid HSv26.out.size
        clear hs1 hk1 hb1
        refine hK.out _ _ HSv27.out (fun HS => ?_)
        clear hK K
        try simp only [Act.put, zA, zB, zC]
        refine qR 5 fun K hK => ?_
        rw [if_pos (by rfl)]
        refine wp_appB (.tmp 17) (.tmp 20) rfl wc.heap.size A1 nh c1 (bs hd) rfl HRv27.out _ _ (some ⟨v26.heap.size, 0, none⟩) 1 1 _ rfl HTv27.out.lst1 (by simp [Value.oneCell']) (by have := HNH.out.2; omega) HSv27.out.size ?_
        intro A2 c2 v28 hc2 ho2 hb2 hg2
        have HSv28 : Hid (Below wc.heap.size wc v28) := hid (HSv27.out.trans hb2)
        have HRv28 := hid ho2
        have HXv28 := hid (HXv27.out.grown hg2 (blk_ne_row HXv27.out (by decide) HRv27.out))
        clear hc2 ho2 hb2 hg2
        refine hK.out _ _ HSv28.out (fun HS => ?_)
        clear hK K
        try simp only [Act.put, zA, zB, zC]
        refine qR 7 fun K hK => ?_
        rw [if_pos (by rfl)]
        refine wp_storeB (.tmp 5) (.tmp 21) rfl v0.heap.size rfl A2 (nh + 1) c2 rfl _ HXv28.out ?_
        intro v29 hs3 hk3 hg3
        have HSv29 : Hid (Below wc.heap.size wc v29) := hid (HSv28.out.grown hg3 HSv28.out.size fun k hk => by injection hk with hk; rw [← hk]; exact HGXv25.out)
        have HRv29 := hid (own_grown HRv28.out hg3 (blk_ne_row HXv28.out (by decide) HRv28.out))
        have HXv29 := hid hk3
        clear hs3 hk3 hg3
        refine hK.out _ _ HSv29.out (fun HS => ?_)
        clear hK K
        try simp only [Act.put]
        refine wpAnyH_done (by kernel_rfl) ?_ _
        clear HS
        dsimp only [onlyN]
        go_wp2_with fail
        go_meet
        case rel =>
          exact ⟨v0.heap.size, A2, c2, rfl, hid (Nat.le_trans hBA.out.size HGXv25.out), HXv29, hid (by rw [bs_app]; exact own_lower HRv29.out hBA.out.size), hid (hB3.out.keep (HSv29.out.block _ hB3.out.lt)), hid (hB4.out.keep (HSv29.out.block _ hB4.out.lt)), hid (hBA.out.trans (HSv29.out.mono hBA.out.size))⟩
      case stepb13_4 =>
        rw [if_pos (by rfl)]
        refine wp_build1B (.tmp 19) rfl (UInt8.ofNat W) (by rw [HW8.out]; rfl) ?_
        intro v30 hs1 hk1 hb1
        have HSv30 : Hid (Below wc.heap.size wc v30) := hid (HSv25.out.trans (hb1.mono HSv25.out.size))
        have HXv30 := hid (HXv25.out.keep (hb1.block _ HXv25.out.lt))
        have HTv30 := hid hk1
        have HGTv30 : Hid (wc.heap.size ≤ v25.heap.size) := hid HSv25.out.size
        clear hs1 hk1 hb1
        refine hK.out _ _ HSv30.out (fun HS => ?_)
        clear hK K
        try simp only [Act.put, zA, zB, zC]
        refine qR 1 fun K hK => ?_
        go_simp
        refine (HNUM.out v30).mono ?_
        rintro e v31 ⟨A1, c1, rfl, hc1, ho1, hb1⟩
        rw [HNH.out.1] at ho1 hc1 ⊢
        have HSv31 : Hid (Below wc.heap.size wc v31) := hid (HSv30.out.trans (hb1.mono HSv30.out.size))
        have HTv31 := hid (HTv30.out.keep (hb1.block _ HTv30.out.lt))
        have HXv31 := hid (HXv30.out.keep (hb1.block _ HXv30.out.lt))
        have HRv31 := hid (own_lower ho1 HSv30.out.size)
        clear ho1 hb1 hc1
        refine hK.out _ _ HSv31.out (fun HS => ?_)
        clear hK K
        try simp only [Act.put, zA, zB, zC]
        refine qR 5 fun K hK => ?_
        rw [if_pos (by rfl)]
        refine wp_appB (.tmp 17) (.tmp 20) rfl wc.heap.size A1 nh c1 (bs hd) rfl HRv31.out _ _ (some ⟨v25.heap.size, 0, none⟩) 1 1 _ rfl HTv31.out.lst1 (by simp [Value.oneCell']) (by have := HNH.out.2; omega) HSv31.out.size ?_
        intro A2 c2 v32 hc2 ho2 hb2 hg2
        have HSv32 : Hid (Below wc.heap.size wc v32) := hid (HSv31.out.trans hb2)
        have HRv32 := hid ho2
        have HXv32 := hid (HXv31.out.grown hg2 (blk_ne_row HXv31.out (by decide) HRv31.out))
        clear hc2 ho2 hb2 hg2
        refine hK.out _ _ HSv32.out (fun HS => ?_)
        clear hK K
        try simp only [Act.put, zA, zB, zC]
        refine qR 7 fun K hK => ?_
        rw [if_pos (by rfl)]
        refine wp_storeB (.tmp 5) (.tmp 21) rfl v0.heap.size rfl A2 (nh + 1) c2 rfl _ HXv32.out ?_
        intro v33 hs3 hk3 hg3
        have HSv33 : Hid (Below wc.heap.size wc v33) := hid (HSv32.out.grown hg3 HSv32.out.size fun k hk => by injection hk with hk; rw [← hk]; exact HGXv25.out)
        have HRv33 := hid (own_grown HRv32.out hg3 (blk_ne_row HXv32.out (by decide) HRv32.out))
        have HXv33 := hid hk3
        clear hs3 hk3 hg3
        refine hK.out _ _ HSv33.out (fun HS => ?_)
        clear hK K
        try simp only [Act.put]
        refine wpAnyH_done (by kernel_rfl) ?_ _
        clear HS
        dsimp only [onlyN]
        go_wp2_with fail
        go_meet
        case rel =>
          exact ⟨v0.heap.size, A2, c2, rfl, hid (Nat.le_trans hBA.out.size HGXv25.out), HXv33, hid (by rw [bs_app]; exact own_lower HRv33.out hBA.out.size), hid (hB3.out.keep (HSv33.out.block _ hB3.out.lt)), hid (hB4.out.keep (HSv33.out.block _ hB4.out.lt)), hid (hBA.out.trans (HSv33.out.mono hBA.out.size))⟩
  case rest =>
  obtain ⟨b5, A2, c2, rfl, hG5, hX5, hO5, hC3, hC4, hBC⟩ := hcut
  clear hB3 hB4 hBA HNUM w8
  rename World => wd
  obtain ⟨g, off, rfl, -, hg, -⟩ := lst_i HL.out (j := 0) (by rw [HLL.out]; exact HN.out.1)
  clear hg
  go_wp2_with fail
  refine (chunk_c (w := wd)).mono ?_
  rintro e w6 ⟨rfl, rfl⟩
  have hj0 : PuJ w b4 wd.heap.size (wd.heap.size + 1) m W g off n c ((wd.alloc (.cells #[.slice (some ⟨g, off, none⟩) n c] 22)).alloc (.cells #[.int .i64 8] 3)) := by
    have hbw : Below wd.heap.size wd ((wd.alloc (.cells #[.slice (some ⟨g, off, none⟩) n c] 22)).alloc (.cells #[.int .i64 8] 3)) := ((Below.refl _ _).alloc (Nat.le_refl _) _).alloc (by simp) _
    have hb2 : Below (wd.heap.size + 1) (wd.alloc (.cells #[.slice (some ⟨g, off, none⟩) n c] 22)) ((wd.alloc (.cells #[.slice (some ⟨g, off, none⟩) n c] 22)).alloc (.cells #[.int .i64 8] 3)) := (Below.refl _ _).alloc (by simp) _
    have hn2 := Blk.new (wd.alloc (.cells #[.slice (some ⟨g, off, none⟩) n c] 22)) 3 #[.int .i64 8]
    rw [World.size_alloc] at hn2
    exact ⟨hC3.out.keep (hbw.block _ hC3.out.lt), hC4.out.keep (hbw.block _ hC4.out.lt), (Blk.new wd _ _).keep (hb2.block _ (Nat.lt_succ_self _)), hn2, hBC.out.trans (hbw.mono hBC.out.size)⟩
  have hO6 : ((wd.alloc (.cells #[.slice (some ⟨g, off, none⟩) n c] 22)).alloc (.cells #[.int .i64 8] 3)).ownsRow w.heap.size 5 1 (.slice A2 (nh + 1) c2) (nh + 1) (bs (hd ++ [UInt8.ofNat W])) := own_bel hO5.out (((Below.refl _ _).alloc (Nat.le_refl _) _).alloc (by simp) _)
  have hX6 : Blk ((wd.alloc (.cells #[.slice (some ⟨g, off, none⟩) n c] 22)).alloc (.cells #[.int .i64 8] 3)) b5 24 #[.slice A2 (nh + 1) c2] := hX5.out.keep ((((Below.refl wd.heap.size wd).alloc (Nat.le_refl _) _).alloc (by simp) _).block _ hX5.out.lt)
  have hsz : ((wd.alloc (.cells #[.slice (some ⟨g, off, none⟩) n c] 22)).alloc (.cells #[.int .i64 8] 3)).heap.size = wd.heap.size + 1 + 1 := by simp
  have hwd : w.heap.size ≤ wd.heap.size := hBC.out.size
  generalize wd.heap.size = Bs at *
  generalize ((wd.alloc (.cells #[.slice (some ⟨g, off, none⟩) n c] 22)).alloc (.cells #[.int .i64 8] 3)) = wf at *
  clear hX5 hO5 hC3 hC4 hBC
  have HJ0 := hid hj0
  have HSZ := hid hsz
  have HWS := hid hwd
  have HI0 : Hid (PuI w b4 b5 Bs (Bs + 1) m W g off n c (hd ++ [UInt8.ofNat W]) L [] wf) := hid ⟨hj0, A2, nh + 1, c2, hX6, by rw [outC_nil, List.append_nil]; exact hO6, by have := HNH.out; simp; omega⟩
  clear hj0 hO6 hX6 hsz hwd
  go_wp2_with fail
  refine (wpIn_wide (n := 3)).1 ?_
  refine wpIn_rangeFunc_ownF rfl (by decide) (gf := 32) (lb := #[.pointer (some ⟨Bs, 0, none⟩), .pointer (some ⟨Bs + 1, 0, none⟩)]) rfl trivial (enters_of Try.func32 (by kernel_rfl) rfl)
    (chunk_stops (by decide) Bs (Bs + 1) g off n c HNC.out (by have := HN.out.2; omega) wf (by rw [HSZ.out]; omega) (by rw [HSZ.out]; omega) (HJ0.out.xs.cell 0) (HJ0.out.xn.cell 0))
    Kc.trans (fun W' l o o' hl ho hc _ => ⟨World.putObj_heap_other (by have := HSZ.out; omega), World.putObj_heap_other (by have := HSZ.out; omega)⟩) (Below.refl _ _) (fun _ => rfl)
    (PuI w b4 b5 Bs (Bs + 1) m W g off n c (hd ++ [UInt8.ofNat W]) L) (fun _ _ _ => False) (PuI.own (by have := HSZ.out; have := HWS.out; omega)) (fun _ _ _ _ _ h _ _ => h) HI0.out
    (fun k => { tmps := #[.slice (some ⟨g, off, none⟩) n c, undef, .slice none 0 0, .pointer (some ⟨w.heap.size, 0, none⟩), .pointer (some ⟨b4, 0, none⟩), .pointer (some ⟨b5, 0, none⟩), .slice (some ⟨g, off + 8 * k, none⟩) (min 8 (n - 8 * k)) (min 8 (n - 8 * k)), .slice (some ⟨g, off, none⟩) n c, .int .i64 n, .bool false, .slice (some ⟨g, off, none⟩) n c, .int .i64 m, u12, u13, u14, u15, u16, u17, u18, u19, u20, u21, .slice (some ⟨g, off, none⟩) n c, .func (.func 32) #[] #[.pointer (some ⟨Bs, 0, none⟩), .pointer (some ⟨Bs + 1, 0, none⟩)], .slice (some ⟨g, off + 8 * k, none⟩) (min 8 (n - 8 * k)) (min 8 (n - 8 * k)), undef, undef, undef, undef, undef, undef, undef, undef], defers := [] }) ?assign ?body ?done ?stop
  case assign =>
    intro l k wr K hK
    unfold chEnc
    gi_wp2_with (rw [Oper.semAt_eq _ _ _ (fun c h => by cases h)]; go_simp)
    exact hK
  case stop =>
    rintro D cc pre wr _ _ h _
    exact h.elim
  case done =>
    rintro D xs wr hD rfl ⟨hJ, A, p, c5, hX, hO, hp⟩ hK
    have hcc := hX.cell 0
    go_wp2
    refine ⟨by simp, .inl ⟨_, _, rfl, run_takeDeferred hK, ?_⟩⟩
    have hq : hd ++ [UInt8.ofNat W] ++ outC L m W (List.range ((n + 7) / 8)) = btP L := by
      rw [btP_of HNE.out, ← HLL.out, outC_all]
      unfold btB
      rw [HWL.out, HM.out, HHD.out, List.append_assoc]
      rfl
    rw [hq] at hO
    have hpl : (btP L).length = p := by have := hO.1; rw [bs_len] at this; omega
    subst hpl
    obtain ⟨A', c', e', hc'⟩ := own_form hO
    injection e' with e1 _ e2
    subst e1 e2
    exact ⟨_, results_tmp rfl _ _ _, A, c5, rfl, hc', ownsRow_putObj hO _ hK rfl, hJ.be.trans (belowK_b (Nat.le_refl _) _ _ _ _ (by have := HSZ.out; have := HWS.out; omega) hK rfl rfl)⟩
  case body =>
    rintro l pre k wr ⟨hJ, A, p, c5, hX, hO, hp⟩ hpre
    clear HI0 HJ0
    have HLc := hid (lst_chk HL.out k)
    obtain ⟨q, hq⟩ : ∃ q, min 8 (n - 8 * k) = q := ⟨_, rfl⟩
    obtain ⟨o8, ho8⟩ : ∃ o8, off + 8 * k = o8 := ⟨_, rfl⟩
    rw [hq, ho8] at HLc
    simp only [hq, ho8]
    have hq8 : q ≤ 8 := by omega
    obtain ⟨M, hM⟩ : ∃ M, q * W = M := ⟨_, rfl⟩
    have HM8 : Hid (M ≤ 512) := hid (by rw [← hM]; exact Nat.le_trans (Nat.mul_le_mul hq8 HW64.out) (by decide))
    have HDF : Hid (∀ v, PuJ w b4 Bs (Bs + 1) m W g off n c v → Calls Try.prog 18 #[.slice (some ⟨g, o8, none⟩) q q, .int .i64 m, .int .i64 (W : Int)] v fun e v' => ∃ A' c', e = .returned (.slice A' M c') ∧ v'.ownsRow v.heap.size 4 1 (.slice A' M c') M (bls (dfs (chk L k) m W)) ∧ Below v.heap.size v v') := hid (fun v hv => by
      have := diffs_c ((HLc.out.below hv.be (Nat.le_refl _)).wide (Nat.le_refl _) hv.be.size) (c := q) (by omega) (fun x hx => H64.out x (chk_mem hx)) HM64.out (fun x hx => by rw [← HM.out]; exact mnL_le (chk_mem hx)) HW64.out
      rwa [hM] at this)
    have hz64 := chk_bytes L m HW64.out k
    obtain ⟨z, hz⟩ : ∃ z, bmP (dfs (chk L k) m W) = z := ⟨_, rfl⟩
    obtain ⟨nz, hnz⟩ : ∃ nz, z.length = nz := ⟨_, rfl⟩
    have HBP : Hid (∀ v base A1 c1, v.ownsRow base 4 1 (.slice A1 M c1) M (bls (dfs (chk L k) m W)) → Calls Try.prog 17 #[.slice A1 M c1] v fun e v' => ∃ A2 c2, e = .returned (.slice A2 nz c2) ∧ v'.ownsRow v.heap.size 5 1 (.slice A2 nz c2) nz (bs z) ∧ Below v.heap.size v v') := hid (fun v base A1 c1 hv => by
      refine (bput_c ((Lst.own hv).wide (Nat.zero_le _) (Nat.le_refl _)) (by have := HM8.out; omega)).mono ?_
      rintro e v' ⟨A2, c2, h1, _, h2, h3⟩
      rw [hz, hnz] at h1 h2
      exact ⟨A2, c2, h1, h2, h3⟩)
    have HZ : Hid (outC L m W (pre ++ [k]) = outC L m W pre ++ z) := hid (by rw [outC_snoc, hz])
    have HNZ : Hid (nz ≤ 64) := hid (by rw [← hnz, ← hz]; exact hz64)
    have HP : Hid (p ≤ 11 + 64 * pre.length ∧ pre.length < 1251) := hid ⟨hp, by have := HN.out; omega⟩
    have HJw := hid hJ
    clear hz hnz hM hq ho8 hq8 hz64 hp hpre
    gi_wp2_with fail
    refine held_inR (by rintro ⟨_, _, h⟩; exact h) (by kernel_rfl) (by kernel_rfl) (S := PuJ w b4 Bs (Bs + 1) m W g off n c) (hJ.bel (Below.refl _ _).drew) (fun HS => ?_)
    have HJv0 := hid HS
    have HOv0 := hid (own_bel hO (Below.refl _ _).drew)
    have HXv0 : Hid (Blk wr.drew b5 24 #[.slice A p c5]) := hid hX
    have HKv0 : Hid (KeepsOthers wr wr.drew) := hid ⟨Nat.le_refl _, fun _ _ h _ => h⟩
    clear hJ hX hO
    generalize wr.drew = v0 at *
    refine qT 1 ?vq14_1 ?yq14_1 HS ?rq14_1
    case yq14_1 =>
      refine qI fun wS hSw => ?_
      go_simp
      try with_reducible rfl
    try simp only [Act.put, zA, zB, zC]
    refine qT 2 ?vq15_2 ?yq15_2 HS ?rq15_2
    case yq15_2 =>
      refine qI fun wS hSw => ?_
      have hx := hSw.x3.cell 0
      go_simp
      try with_reducible rfl
    try simp only [Act.put, zA, zB, zC]
    refine qT 3 ?vq16_3 ?yq16_3 HS ?rq16_3
    case yq16_3 =>
      refine qI fun wS hSw => ?_
      have hx := hSw.x4.cell 0
      go_simp
      try with_reducible rfl
    try simp only [Act.put, zA, zB, zC]
    refine wpAnyH_ready (rs := [0, 4]) (by kernel_rfl) (by simp) ?_
    refine (AllReadyH.cons (o := ?ob17_0) ?hob17_0 (fun K hK => ?stepb17_0) (AllReadyH.cons (o := ?ob17_4) ?hob17_4 (fun K hK => ?stepb17_4) AllReadyH.nil))
    case hob17_0 => simp only [zD, zF]; exact rfl
    case hob17_4 => simp only [zD, zE, zF]; exact rfl
    case stepb17_0 =>
      rw [if_pos (by rfl)]
      refine wp_loadB (.tmp 5) rfl b5 rfl A p c5 HXv0.out ?_
      refine hK.out _ _ HS (fun HS => ?_)
      clear hK K
      try simp only [Act.put, zA, zB, zC]
      refine qR 4 fun K hK => ?_
      go_simp
      refine (HDF.out v0 HJv0.out).mono ?_
      rintro e v1 ⟨A1, c1, rfl, ho1, hb1⟩
      have HJv1 := hid (HJv0.out.bel hb1)
      have HOv1 := hid (own_bel HOv0.out hb1)
      have HXv1 := hid (HXv0.out.keep (hb1.block _ HXv0.out.lt))
      have HKv1 := hid (HKv0.out.trans (keeps_below hb1))
      have HDv1 := hid ho1
      clear ho1 hb1
      refine hK.out _ _ HJv1.out (fun HS => ?_)
      clear hK K
      try simp only [Act.put, zA, zB, zC]
      refine qR 5 fun K hK => ?_
      go_simp
      refine (HBP.out v1 _ A1 c1 HDv1.out).mono ?_
      rintro e v2 ⟨A2, c2, rfl, ho1, hb1⟩
      have HJv2 := hid (HJv1.out.bel hb1)
      have HOv2 := hid (own_bel HOv1.out hb1)
      have HXv2 := hid (HXv1.out.keep (hb1.block _ HXv1.out.lt))
      have HKv2 := hid (HKv1.out.trans (keeps_below hb1))
      have HPv2 := hid ho1
      clear ho1 hb1
      refine hK.out _ _ HJv2.out (fun HS => ?_)
      clear hK K
      try simp only [Act.put, zA, zB, zC]
      refine qR 6 fun K hK => ?_
      rw [if_pos (by rfl)]
      refine wp_appB (.tmp 25) (.tmp 30) rfl w.heap.size A p c5 _ rfl HOv2.out _ _ A2 nz c2 _ rfl (Lst.own HPv2.out) (bs_one _) (by have := HP.out; have := HNZ.out; omega) HJv2.out.be.size ?_
      intro A3 c3 v3 _ ho1 hb1 hg1
      have HJv3 := hid (HJv2.out.row HOv2.out hg1 (Nat.le_refl _))
      have HXv3 := hid (HXv2.out.grown hg1 (blk_ne_row HXv2.out (by decide) HOv2.out))
      have HKv3 := hid (HKv2.out.trans (keeps_rowA HOv2.out hg1))
      have HOv3 := hid ho1
      clear ho1 hb1 hg1
      refine hK.out _ _ HJv3.out (fun HS => ?_)
      clear hK K
      try simp only [Act.put, zA, zB, zC]
      refine qR 7 fun K hK => ?_
      rw [if_pos (by rfl)]
      refine wp_storeB (.tmp 5) (.tmp 31) rfl b5 rfl A3 (p + nz) c3 rfl _ HXv3.out ?_
      intro v4 _ hk1 hg1
      have HJv4 := hid (HJv3.out.box HXv3.out hg1 hG5.out)
      have HOv4 := hid (own_grown HOv3.out hg1 (blk_ne_row HXv3.out (by decide) HOv3.out))
      have HKv4 := hid (HKv3.out.trans (keeps_row HXv3.out.isC hg1))
      have HXv4 := hid hk1
      clear hk1 hg1
      refine hK.out _ _ HJv4.out (fun HS => ?_)
      clear hK K
      try simp only [Act.put]
      refine wpAnyH_done (by kernel_rfl) ?_ _
      clear HS
      exact ⟨HKv4.out, HJw.out.kc HJv4.out, HJv4.out, A3, p + nz, c3, HXv4.out, by rw [HZ.out, ← List.append_assoc, bs_app (_ ++ _) z]; exact HOv4.out, by have := HP.out; have := HNZ.out; rw [List.length_append, List.length_singleton]; omega⟩
    case stepb17_4 =>
      go_simp
      refine (HDF.out v0 HJv0.out).mono ?_
      rintro e v1 ⟨A1, c1, rfl, ho1, hb1⟩
      have HJv1 := hid (HJv0.out.bel hb1)
      have HOv1 := hid (own_bel HOv0.out hb1)
      have HXv1 := hid (HXv0.out.keep (hb1.block _ HXv0.out.lt))
      have HKv1 := hid (HKv0.out.trans (keeps_below hb1))
      have HDv1 := hid ho1
      clear ho1 hb1
      refine hK.out _ _ HJv1.out (fun HS => ?_)
      clear hK K
      try simp only [Act.put, zA, zB, zC]
      refine wpAnyH_ready (rs := [0, 5]) (by kernel_rfl) (by simp) ?_
      refine (AllReadyH.cons (o := ?ob18_0) ?hob18_0 (fun K hK => ?stepb18_0) (AllReadyH.cons (o := ?ob18_5) ?hob18_5 (fun K hK => ?stepb18_5) AllReadyH.nil))
      case hob18_0 => simp only [zD, zF]; exact rfl
      case hob18_5 => simp only [zD, zE, zF]; exact rfl
      case stepb18_0 =>
        rw [if_pos (by rfl)]
        refine wp_loadB (.tmp 5) rfl b5 rfl A p c5 HXv1.out ?_
        refine hK.out _ _ HS (fun HS => ?_)
        clear hK K
        try simp only [Act.put, zA, zB, zC]
        refine qR 5 fun K hK => ?_
        go_simp
        refine (HBP.out v1 _ A1 c1 HDv1.out).mono ?_
        rintro e v2 ⟨A2, c2, rfl, ho1, hb1⟩
        have HJv2 := hid (HJv1.out.bel hb1)
        have HOv2 := hid (own_bel HOv1.out hb1)
        have HXv2 := hid (HXv1.out.keep (hb1.block _ HXv1.out.lt))
        have HKv2 := hid (HKv1.out.trans (keeps_below hb1))
        have HPv2 := hid ho1
        clear ho1 hb1
        refine hK.out _ _ HJv2.out (fun HS => ?_)
        clear hK K
        try simp only [Act.put, zA, zB, zC]
        refine qR 6 fun K hK => ?_
        rw [if_pos (by rfl)]
        refine wp_appB (.tmp 25) (.tmp 30) rfl w.heap.size A p c5 _ rfl HOv2.out _ _ A2 nz c2 _ rfl (Lst.own HPv2.out) (bs_one _) (by have := HP.out; have := HNZ.out; omega) HJv2.out.be.size ?_
        intro A3 c3 v3 _ ho1 hb1 hg1
        have HJv3 := hid (HJv2.out.row HOv2.out hg1 (Nat.le_refl _))
        have HXv3 := hid (HXv2.out.grown hg1 (blk_ne_row HXv2.out (by decide) HOv2.out))
        have HKv3 := hid (HKv2.out.trans (keeps_rowA HOv2.out hg1))
        have HOv3 := hid ho1
        clear ho1 hb1 hg1
        refine hK.out _ _ HJv3.out (fun HS => ?_)
        clear hK K
        try simp only [Act.put, zA, zB, zC]
        refine qR 7 fun K hK => ?_
        rw [if_pos (by rfl)]
        refine wp_storeB (.tmp 5) (.tmp 31) rfl b5 rfl A3 (p + nz) c3 rfl _ HXv3.out ?_
        intro v4 _ hk1 hg1
        have HJv4 := hid (HJv3.out.box HXv3.out hg1 hG5.out)
        have HOv4 := hid (own_grown HOv3.out hg1 (blk_ne_row HXv3.out (by decide) HOv3.out))
        have HKv4 := hid (HKv3.out.trans (keeps_row HXv3.out.isC hg1))
        have HXv4 := hid hk1
        clear hk1 hg1
        refine hK.out _ _ HJv4.out (fun HS => ?_)
        clear hK K
        try simp only [Act.put]
        refine wpAnyH_done (by kernel_rfl) ?_ _
        clear HS
        exact ⟨HKv4.out, HJw.out.kc HJv4.out, HJv4.out, A3, p + nz, c3, HXv4.out, by rw [HZ.out, ← List.append_assoc, bs_app (_ ++ _) z]; exact HOv4.out, by have := HP.out; have := HNZ.out; rw [List.length_append, List.length_singleton]; omega⟩
      case stepb18_5 =>
        go_simp
        refine (HBP.out v1 _ A1 c1 HDv1.out).mono ?_
        rintro e v2 ⟨A2, c2, rfl, ho1, hb1⟩
        have HJv2 := hid (HJv1.out.bel hb1)
        have HOv2 := hid (own_bel HOv1.out hb1)
        have HXv2 := hid (HXv1.out.keep (hb1.block _ HXv1.out.lt))
        have HKv2 := hid (HKv1.out.trans (keeps_below hb1))
        have HPv2 := hid ho1
        clear ho1 hb1
        refine hK.out _ _ HJv2.out (fun HS => ?_)
        clear hK K
        try simp only [Act.put, zA, zB, zC]
        refine qR 0 fun K hK => ?_
        rw [if_pos (by rfl)]
        refine wp_loadB (.tmp 5) rfl b5 rfl A p c5 HXv2.out ?_
        refine hK.out _ _ HS (fun HS => ?_)
        clear hK K
        try simp only [Act.put, zA, zB, zC]
        refine qR 6 fun K hK => ?_
        rw [if_pos (by rfl)]
        refine wp_appB (.tmp 25) (.tmp 30) rfl w.heap.size A p c5 _ rfl HOv2.out _ _ A2 nz c2 _ rfl (Lst.own HPv2.out) (bs_one _) (by have := HP.out; have := HNZ.out; omega) HJv2.out.be.size ?_
        intro A3 c3 v3 _ ho1 hb1 hg1
        have HJv3 := hid (HJv2.out.row HOv2.out hg1 (Nat.le_refl _))
        have HXv3 := hid (HXv2.out.grown hg1 (blk_ne_row HXv2.out (by decide) HOv2.out))
        have HKv3 := hid (HKv2.out.trans (keeps_rowA HOv2.out hg1))
        have HOv3 := hid ho1
        clear ho1 hb1 hg1
        refine hK.out _ _ HJv3.out (fun HS => ?_)
        clear hK K
        try simp only [Act.put, zA, zB, zC]
        refine qR 7 fun K hK => ?_
        rw [if_pos (by rfl)]
        refine wp_storeB (.tmp 5) (.tmp 31) rfl b5 rfl A3 (p + nz) c3 rfl _ HXv3.out ?_
        intro v4 _ hk1 hg1
        have HJv4 := hid (HJv3.out.box HXv3.out hg1 hG5.out)
        have HOv4 := hid (own_grown HOv3.out hg1 (blk_ne_row HXv3.out (by decide) HOv3.out))
        have HKv4 := hid (HKv3.out.trans (keeps_row HXv3.out.isC hg1))
        have HXv4 := hid hk1
        clear hk1 hg1
        refine hK.out _ _ HJv4.out (fun HS => ?_)
        clear hK K
        try simp only [Act.put]
        refine wpAnyH_done (by kernel_rfl) ?_ _
        clear HS
        exact ⟨HKv4.out, HJw.out.kc HJv4.out, HJv4.out, A3, p + nz, c3, HXv4.out, by rw [HZ.out, ← List.append_assoc, bs_app (_ ++ _) z]; exact HOv4.out, by have := HP.out; have := HNZ.out; rw [List.length_append, List.length_singleton]; omega⟩
end Go.Proofs.Ytejmllpffocneaa
