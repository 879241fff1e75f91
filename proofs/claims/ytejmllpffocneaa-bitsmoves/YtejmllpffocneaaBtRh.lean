/- What bits.readHead returns. Nothing is assumed. -/
import Derived.Test.YtejmllpffocneaaBtD
import Derived.Test.YtejmllpffocneaaPkW2
namespace Go.Proofs.Ytejmllpffocneaa
open Go.RowKit

theorem results_t4 {fn : Func} {t u v x : Tmp} (h : fn.results = #[.tmp t, .tmp u, .tmp v, .tmp x]) (tmps : Array Value) (P : Program) (w : World) :
    (results fn tmps).run P w = .ok (.tuple #[tmps.getD t undef, tmps.getD u undef, tmps.getD v undef, tmps.getD x undef]) w := by
  simp [results, h]
theorem rh_below {w w' : World} {g : Nat} (h : w.grownBy w' (some g)) (hg : g < w.heap.size) : Below g w w' := grown_below h (Nat.le_of_lt hg) fun k hk => by injection hk with hk; omega
/-- What readHead answers. -/
def RHead (w : World) (b : List UInt8) (e : Ending) (w' : World) : Prop :=
  Below w.heap.size w w' ∧ ((¬ hO b ∧ e = .returned (.tuple #[.int .i64 0, .int .i64 0, .slice none 0 0, .bool false])) ∨
  (hO b ∧ ∃ B d, e = .returned (.tuple #[.int .i64 (hL b), .int .i64 (hW b), .slice B (hB b).length d, .bool true]) ∧ Bts w 0 w.heap.size B (hB b).length (hB b)))
set_option maxRecDepth 100000 in
set_option maxHeartbeats 16000000 in
theorem bthead_c {w : World} {n c : Nat} {A : Option Addr} {b : List UInt8} (h : Bts w 0 w.heap.size A n b) (hnc : n ≤ c) (hn : n ≤ 100000) :
    Calls Try.prog 19 #[.slice A n c] w (RHead w b) := by
  have HL := hid h
  have HLEN : Hid (b.length = n) := hid h.len
  have HN := hid hn
  have HNC := hid hnc
  clear h hn hnc
  go_enter Try.func19, Try.ntmps19
  go_wp2_with fail
  refine (open_c A n c b w HL.out (by have := HN.out; omega)).mono ?_
  rintro e w1 ⟨g, rfl, hd1, hs1, hb1⟩
  have HGW : Hid (w.heap.size ≤ g) := hid (by obtain ⟨_, _, _, _, _, h3, _⟩ := hd1; exact h3)
  have HD1 := hid hd1
  have HB1 := hid hb1
  clear hd1 hs1 hb1
  go_wp2_with fail
  rcases Nat.eq_zero_or_pos (rd b).2 with hz | hz
  · refine (rnum_none w1 _ g b HD1.out hz).mono ?_
    rintro e w2 ⟨rfl, -, hgr⟩
    have HB2 := hid (HB1.out.trans ((rh_below hgr HD1.out.lt).mono HGW.out))
    have HNO : Hid (¬ hO b) := hid (fun h => h.1 hz)
    clear hgr hz
    go_wp2
    (try simp only [Exit.inBlock, Exit.then]); refine bodyPost_ret (results_t4 rfl _ _ _) rfl ?_
    exact ⟨HB2.out, .inl ⟨HNO.out, rfl⟩⟩
  have hnum := rnum_some w1 _ g b HD1.out hz
  have HZ := hid hz
  have HHL := hid (hd_len (b := b) (by omega))
  have HLR := hid (hL_r b)
  obtain ⟨x, hx⟩ : ∃ x, hL b = x := ⟨_, rfl⟩
  obtain ⟨k, hk⟩ : ∃ k, (rd b).2 = k := ⟨_, rfl⟩
  have hx2 : unfold_ (rd b).1 = x := hx
  rw [hx2, hk] at hnum
  rw [hx, hk] at HHL
  rw [hx] at HLR
  rw [hk] at HZ
  have HX := hid hx
  have HK := hid hk
  clear hx hk hz hx2
  refine hnum.mono ?_
  rintro e w2 ⟨rfl, hd2, hgr2⟩
  have HB2 := hid (HB1.out.trans ((rh_below hgr2 HD1.out.lt).mono HGW.out))
  have HD2 := hid hd2
  clear hnum hd2 hgr2 HD1 HB1
  go_wp2_with fail
  by_cases hge : b.length ≤ k
  · have hd2 := HD2.out
    rw [List.drop_eq_nil_of_le hge] at hd2
    have HNO : Hid (¬ hO b) := hid (fun h => by have := h.2.1; rw [HK.out] at this; omega)
    refine (byte_end w2 _ g hd2).mono ?_
    rintro e w3 ⟨rfl, -, hgr3⟩
    have HB3 := hid (HB2.out.trans ((rh_below hgr3 HD2.out.lt).mono HGW.out))
    clear hgr3 hd2 hge
    go_wp2
    (try simp only [Exit.inBlock, Exit.then]); refine bodyPost_ret (results_t4 rfl _ _ _) rfl ?_
    exact ⟨HB3.out, .inl ⟨HNO.out, rfl⟩⟩
  have hlt := Nat.lt_of_not_le hge
  clear hge
  have hd2 := HD2.out
  rw [List.drop_eq_getElem_cons hlt] at hd2
  have hWx : hW b = b[k].toNat := by unfold hW; rw [HK.out, List.getElem?_eq_getElem hlt]; rfl
  have HLT := hid hlt
  generalize b[k] = y at hd2 hWx
  have HWX := hid hWx
  clear hWx
  refine (byte_good w2 _ g y _ hd2).mono ?_
  rintro e w3 ⟨rfl, -, hgr3⟩
  have HB3 := hid (HB2.out.trans ((rh_below hgr3 HD2.out.lt).mono HGW.out))
  clear hgr3 hd2 hlt HD2 HB2
  have hy256 : (y.toNat : Int) < 256 := by have := y.toNat_lt; omega
  have y0 : (0 : Int) ≤ (y.toNat : Int) := by omega
  rcases Nat.lt_or_ge 64 y.toNat with hbig | hsm
  · have d1 : decide ((64 : Int) < (y.toNat : Int)) = true := decide_eq_true (by omega)
    have d2 : (64 : Int) < (y.toNat : Int) := by omega
    have d3 : decide (64 < y.toNat) = true := decide_eq_true (by omega)
    have HNO : Hid (¬ hO b) := hid (fun h => by have := h.2.2; rw [HWX.out] at this; omega)
    clear hbig
    go_wp2
    (try simp only [Exit.inBlock, Exit.then]); refine bodyPost_ret (results_t4 rfl _ _ _) rfl ?_
    exact ⟨HB3.out, .inl ⟨HNO.out, rfl⟩⟩
  have d1 : decide ((64 : Int) < (y.toNat : Int)) = false := decide_eq_false (by omega)
  have d2 : ¬ (64 : Int) < (y.toNat : Int) := by omega
  have d3 : decide (64 < y.toNat) = false := decide_eq_false (by omega)
  have HYES : Hid (hO b) := hid ⟨by rw [HK.out]; have := HZ.out; omega, by rw [HK.out]; exact HLT.out, by rw [HWX.out]; exact hsm⟩
  have HSM := hid hsm
  clear hsm
  go_wp2_with fail
  refine (number_c none 0 0 x [] w3 (Bts.nil _ _ _ _) (by decide) HLR.out.1 HLR.out.2).mono ?_
  rw [List.nil_append]
  rintro e w4 ⟨A4, c4, rfl, -, -, hb4⟩
  rw [HHL.out]
  have HB4 := hid (HB3.out.trans (hb4.mono HB3.out.size))
  have HKN : Hid (k + 1 ≤ n ∧ n ≤ 100000) := hid (by have := HLT.out; have := HLEN.out; have := HN.out; omega)
  have wk : wrap64 ((k : Int) + 1) = ((k + 1 : Nat) : Int) := w64_nat (m := k + 1) (by have := HKN.out; omega)
  have wy : wrap64 (y.toNat : Int) = (y.toNat : Int) := w64_nat (m := y.toNat) (by have := HSM.out; omega)
  obtain ⟨g0, off, rfl, -⟩ := HL.out.2 (by have := HKN.out; omega)
  have k1 : (0 : Int) ≤ (k : Int) + 1 := by omega
  have k2 : (k : Int) + 1 ≤ (n : Int) := by have := HKN.out.1; omega
  have HFIN : Hid (∀ B d w', Bts w 0 w.heap.size B (n - (k + 1)) (b.drop (k + 1)) → Below w.heap.size w w' → RHead w b (.returned (.tuple #[.int .i64 x, .int .i64 (IntKind.i64.wrap (y.toNat : Int)), .slice B (n - (k + 1)) d, .bool true])) w') := hid (fun B d w' h1 h2 => by
    have hB2 : hB b = b.drop (k + 1) := by unfold hB; rw [HK.out]
    have hBl : (hB b).length = n - (k + 1) := by rw [hB2, List.length_drop, HLEN.out]
    have hwy : IntKind.i64.wrap (y.toNat : Int) = (y.toNat : Int) := by rw [IntWalk.i64_left]; exact wy
    refine ⟨h2, .inr ⟨HYES.out, B, d, ?_, ?_⟩⟩
    · rw [HX.out, HWX.out, hBl, hwy]
    · rw [hBl, hB2]; exact h1)
  clear hb4 d1 d2 d3 HB3 wy
  go_wp2_with fail
  refine wp_region_held_drew (S := fun wx => Below w4.heap.size w4 wx) (by kernel_rfl) (Below.refl _ _).drew (fun HS => ?_)
  refine qT 0 ?vq1_0 ?yq1_0 HS ?rq1_0
  case yq1_0 =>
    refine qI fun wS hSw => ?_
    go_simp
    try with_reducible rfl
  try simp only [Act.put, zA, zB, zC]
  refine qT 1 ?vq2_1 ?yq2_1 HS ?rq2_1
  case yq2_1 =>
    refine qI fun wS hSw => ?_
    go_simp
    try with_reducible rfl
  try simp only [Act.put, zA, zB, zC]
  refine qT 2 ?vq3_2 ?yq3_2 HS ?rq3_2
  case yq3_2 =>
    refine qI fun wS hSw => ?_
    go_simp
    try with_reducible rfl
  try simp only [Act.put, zA, zB, zC]
  refine qT 3 ?vq4_3 ?yq4_3 HS ?rq4_3
  case yq4_3 =>
    refine qI fun wS hSw => ?_
    go_simp
    try with_reducible rfl
  try simp only [Act.put, zA, zB, zC]
  refine qT 4 ?vq5_4 ?yq5_4 HS ?rq5_4
  case yq5_4 =>
    refine qI fun wS hSw => ?_
    go_simp
    try with_reducible rfl
  try simp only [Act.put, zA, zB, zC]
  refine qT 5 ?vq6_5 ?yq6_5 HS ?rq6_5
  case yq6_5 =>
    refine qI fun wS hSw => ?_
    go_simp
    try with_reducible rfl
  try simp only [Act.put, zA, zB, zC]
  refine qT 6 ?vq7_6 ?yq7_6 HS ?rq7_6
  case yq7_6 =>
    refine qI fun wS hSw => ?_
    go_simp
    try with_reducible rfl
  try simp only [Act.put, zA, zB, zC]
  refine qT 7 ?vq8_7 ?yq8_7 HS ?rq8_7
  case yq8_7 =>
    refine qI fun wS hSw => ?_
    go_simp
    try with_reducible rfl
  try simp only [Act.put, zA, zB, zC]
  refine qT 8 ?vq9_8 ?yq9_8 HS ?rq9_8
  case yq9_8 =>
    refine qI fun wS hSw => ?_
    go_simp
    try with_reducible rfl
  try simp only [Act.put, zA, zB, zC]
  refine qT 9 ?vq10_9 ?yq10_9 HS ?rq10_9
  case yq10_9 =>
    refine qI fun wS hSw => ?_
    go_simp
    try with_reducible rfl
  try simp only [Act.put, zA, zB, zC]
  refine wpAnyH_done (by kernel_rfl) ?_ _
  go_wp2
  all_goals ((try simp only [Exit.inBlock, Exit.then]); refine bodyPost_ret (results_t4 rfl _ _ _) rfl ?_)
  · have h0 : n - (k + 1) = 0 := by have := HNC.out; omega
    refine HFIN.out _ _ _ ?_ HB4.out.drew
    rw [h0, List.drop_eq_nil_of_le (by rw [HLEN.out]; omega)]
    exact Bts.nil _ _ _ _
  · exact HFIN.out _ _ _ (HL.out.drop (k + 1)) HB4.out.drew
end Go.Proofs.Ytejmllpffocneaa
