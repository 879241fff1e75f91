/- What value.Put returns: behind the bytes given those of the value. -/
import Derived.Test.YtfjpnkchldjjmaaGreatDoorVlAddF
namespace Go.Proofs.YtfjpnkchldjjmaaGreatDoor
open Go.RowKit

theorem full_slice (A : Option Addr) (n c : Nat) (hA : A = none → n = 0 ∧ c = 0) (hc : n ≤ c) (wx : World) : (Instr.slice 22 (.slice A n c) none (some (.int .i64 (n : Int))) (some (.int .i64 (n : Int)))).run Tryz.prog wx = .ok (.slice A n n) wx := by
  cases A with
  | none =>
    obtain ⟨rfl, rfl⟩ := hA rfl
    go_simp
  | some x =>
    go_simp
    all_goals (try omega)
def PutS (w : World) (v : Vl) (wx : World) : Prop := Blk wx w.heap.size 26 (cs4 v) ∧ Below w.heap.size w wx
theorem put_k (v : Vl) : vPutR v = UInt8.ofNat (vk v).toNat :: (if vk v = 1 then nat (fold (vn v)) else if vk v = 2 then [UInt8.ofNat (vn v).toNat] else if vk v = 3 then nat (vs v).length ++ vs v else if vk v = 4 then leN 8 (vf v) else []) := rfl

theorem put_b {n : Nat} (h : n ≤ 1000) : n + 1 ≤ maxLen ∧ (n + 1) * 1 ≤ 140737488355328 := by unfold maxLen; omega
theorem put_d {n : Nat} (h : n ≤ 1000) : (n + 1 + 1) * 1 ≤ 140737488355328 ∧ n + 1 + 1 ≤ maxLen := by unfold maxLen; omega
theorem put_c1 {n : Nat} (h : n ≤ 1000) : n + 1 ≤ 1000000000 := by omega
theorem put_c2 {n : Nat} (h : n ≤ 1000) : n + 1 ≤ 500000000 := by omega
theorem put_c3 {n : Nat} (h : n ≤ 1000) : n + 1 ≤ 1000000 := by omega
theorem put_w {x : Int} {b : Nat} (h : x = (b : Int)) (h2 : b < 2) : x % 256 = x := by omega
theorem row_mk {w w3 : World} {l1 : List UInt8} {n c2 : Nat} {A2 : Option Addr} (hl : l1.length = n + 1) (hc : n + 1 ≤ c2) (ho : w3.ownsRow w.heap.size 5 1 (.slice A2 (n + 1) c2) (n + 1) (bs l1)) (hb : Below w.heap.size w w3) : Row w l1 (.returned (.slice A2 (n + 1) c2)) w3 :=
  ⟨A2, c2, by rw [hl], by rw [hl]; exact hc, by rw [hl]; exact ho, hb⟩
theorem row_back {w w3 w4 : World} {m : List UInt8} {A : Option Addr} {c N : Nat} (hN : m.length = N) (hc : N ≤ c) (ho : w4.ownsRow w3.heap.size 5 1 (.slice A N c) N (bs m)) (hb : Below w3.heap.size w3 w4) (h : Below w.heap.size w w3) : Row w m (.returned (.slice A N c)) w4 := by
  subst hN
  exact ⟨A, c, rfl, hc, Joins.ownsRow_le ho h.size, h.trans (hb.mono h.size)⟩
theorem row_snoc {w w4 : World} {l1 : List UInt8} {x : Int} {b n c : Nat} {A : Option Addr} (hl : l1.length = n + 1) (hx : x = (b : Int)) (hb2 : b < 2) (hc : n + 1 + 1 ≤ c) (ho : w4.ownsRow w.heap.size 5 1 (.slice A (n + 1 + 1) c) (n + 1 + 1) (bs l1 ++ [Value.int .u8 x])) (hb : Below w.heap.size w w4) : Row w (l1 ++ [UInt8.ofNat x.toNat]) (.returned (.slice A (n + 1 + 1) c)) w4 := by
  subst hx
  have hln : (l1 ++ [UInt8.ofNat b]).length = n + 1 + 1 := by simp [hl]
  rw [Int.toNat_natCast]
  refine ⟨A, c, by rw [hln], by rw [hln]; exact hc, ?_, hb⟩
  rw [hln, fh_bs (by omega)]
  exact ho
theorem row_eight {w w4 : World} {l1 : List UInt8} {u n c : Nat} {A : Option Addr} (hl : l1.length = n + 1) (ho : w4.ownsRow w.heap.size 5 1 (.slice A (n + 1 + 8) c) (n + 1 + 8) (bs l1 ++ bs (leN 8 u))) (hb : Below w.heap.size w w4) : Row w (l1 ++ leN 8 u) (.returned (.slice A (n + 1 + 8) c)) w4 := by
  have hln : (l1 ++ leN 8 u).length = n + 1 + 8 := by simp [hl, leN_len]
  obtain ⟨A', c', h3, hc⟩ := own_form ho
  injection h3 with h3 _ h4
  subst h3 h4
  refine ⟨A, c, by rw [hln], by rw [hln]; exact hc, ?_, hb⟩
  rw [hln, bs_app]
  exact ho

set_option maxRecDepth 20000 in
set_option maxHeartbeats 4000000 in
theorem put_c (A : Option Addr) (n c : Nat) (l : List UInt8) (v : Vl) (w : World) (hA : A = none → n = 0 ∧ c = 0) (hc : n ≤ c) (hr : Bts w 0 w.heap.size A n l) (hn : n ≤ 1000) (hf : vf v < 18446744073709551616) (n1 : -9223372036854775808 ≤ vn v) (n2 : vn v ≤ 9223372036854775807) :
    Calls Tryz.prog 6 #[.slice A n c, (.agg #[.int .i64 (vk v), .int .i64 (vn v), .string (str (vs v)), .int .u64 ((vf v : Nat) : Int)])] w (Row w (l ++ vPutR (vRt v))) := by
  have HA := hid (fun wx => rightOrNull_c v hf wx)
  have HF := hid (vRt_f hf)
  have HN := hid (And.intro (vRt_n1 n1) (vRt_n2 n2))
  have HK := hid (vRt_k v)
  have HSL := hid (vRt_s v)
  have HB2 := hid (vRt_2 v)
  have hsl := full_slice A n c hA hc
  have HNO := hid hA
  have HL := hid (And.intro hr.len hn)
  have HR := hid hr
  obtain ⟨ti, hti, hz0, hz1, hz2⟩ := info_parts Tryz.infoU8
  generalize vRt v = rv at *
  obtain ⟨kk, hkk⟩ : ∃ kk : Nat, vk rv = (kk : Int) := ⟨(vk rv).toNat, by have := HK.out; omega⟩
  have e256 : (kk : Int) % 256 = (kk : Int) := by have := HK.out; omega
  have ew : IntKind.u8.wrap (kk : Int) = (kk : Int) := by rw [IntKind.wrap_u8]; exact e256
  have HKK := hid (show kk < 5 by have := HK.out; omega)
  have HPK := hid hkk
  clear hf n1 n2 hA hc hr hn hkk
  go_enter Tryz.func6, Tryz.ntmps6
  go_wp2_with fail
  refine (HA.out _).mono ?_
  rintro e w2 ⟨rfl, hb2⟩
  have hB := (Blk.new w 26 _).bel hb2 (by simp)
  obtain ⟨q0, q1, q2, q3, qf⟩ := hB.v4
  have hbel := (bel1 w _).trans (hb2.mono (by simp))
  have HBEL := bel4 (g := w.heap.size) hbel (Nat.le_refl _) (.int .i64 (vk rv)) (.int .i64 (vn rv)) (.string (str (vs rv))) (.int .u64 ((vf rv : Nat) : Int))
  have HP := hB.put4 (.int .i64 (vk rv)) (.int .i64 (vn rv)) (.string (str (vs rv))) (.int .u64 ((vf rv : Nat) : Int))
  clear hB hb2 hbel HA
  go_upto_region 2 with fail
  generalize (((w2.setCell ⟨w.heap.size, 0, none⟩ (.int .i64 (vk rv))).setCell ⟨w.heap.size, 1, none⟩ (.int .i64 (vn rv))).setCell ⟨w.heap.size, 2, none⟩ (.string (str (vs rv)))).setCell ⟨w.heap.size, 3, none⟩ (.int .u64 ((vf rv : Nat) : Int)) = W at *
  clear q0 q1 q2 q3 qf
  have H3 : PutS w rv W.drew := ⟨HP, HBEL.drew⟩
  have hlit : ∀ j u, ([Value.int .u8 (kk : Int)] : List Value)[j]? = some u → (W.alloc (.cells #[.int .u8 (kk : Int)] 5)).drew.cell? ((⟨W.heap.size, 0, none⟩ : Addr).add j) = some u := fun j u hu => by
    rw [add_plain, Nat.zero_add]
    exact (Blk.cell (Blk.new W 5 #[.int .u8 (kk : Int)]) j).trans (by simpa using hu)
  have hbA := (HBEL.alloc (o := .cells #[.int .u8 (kk : Int)] 5) HBEL.size).drew
  have holds : ∀ b, A = some b → ∀ j u, (bs l)[j]? = some u → (W.alloc (.cells #[.int .u8 (kk : Int)] 5)).drew.cell? (b.add j) = some u := fun b hb j u hu => by
    have hb4 := HR.out.below hbA (Nat.le_refl _)
    have hlen := HR.out.len
    have hjl : j < (bs l).length := by
      rcases Nat.lt_or_ge j (bs l).length with h | h
      · exact h
      · rw [List.getElem?_eq_none h] at hu; cases hu
    rw [bs_len] at hjl
    obtain ⟨g, off, e, _, _, hcl⟩ := hb4.2 (by omega)
    rw [hb] at e
    injection e with e
    subst e
    rw [add_plain]
    exact hcl j u hu
  refine wp_region_held_drew (S := PutS w rv) (by kernel_rfl) H3 (fun HS => ?_)
  refine wpAnyH_take (i := 0) (oi := ?oi0) (v := ?v0) ?hi0 (by kernel_rfl) (by kernel_rfl) (by kernel_rfl) ?hQ0 ?hy0 HS ?rest0
  case hi0 => simp only [List.getElem?_toArray, List.getElem?_cons_zero]; exact rfl
  case hQ0 => exact fun _ _ _ h => h
  case hy0 =>
    refine Or.inl ⟨by rfl, ?_⟩
    intro wS hSw
    go_simp
    try with_reducible rfl
  try simp only [Act.put, List.setIfInBounds_toArray, List.set_cons_zero, List.set_cons_succ]
  refine wpAnyH_take (i := 1) (oi := ?oi1) (v := ?v1) ?hi1 (by kernel_rfl) (by kernel_rfl) (by kernel_rfl) ?hQ1 ?hy1 HS ?rest1
  case hi1 => simp only [List.getElem?_toArray, List.getElem?_cons_succ, List.getElem?_cons_zero]; exact rfl
  case hQ1 => exact fun _ _ _ h => h
  case hy1 =>
    refine Or.inl ⟨by rfl, ?_⟩
    intro wS hSw
    go_simp
    try with_reducible rfl
  try simp only [Act.put, List.setIfInBounds_toArray, List.set_cons_zero, List.set_cons_succ]
  refine wpAnyH_take (i := 2) (oi := ?oi2) (v := ?v2) ?hi2 (by kernel_rfl) (by kernel_rfl) (by kernel_rfl) ?hQ2 ?hy2 HS ?rest2
  case hi2 => simp only [List.getElem?_toArray, List.getElem?_cons_succ, List.getElem?_cons_zero]; exact rfl
  case hQ2 => exact fun _ _ _ h => h
  case hy2 =>
    refine Or.inl ⟨by rfl, ?_⟩
    intro wS hSw
    go_simp
    try with_reducible rfl
  try simp only [Act.put, List.setIfInBounds_toArray, List.set_cons_zero, List.set_cons_succ]
  refine wpAnyH_take (i := 3) (oi := ?oi3) (v := ?v3) ?hi3 (by kernel_rfl) (by kernel_rfl) (by kernel_rfl) ?hQ3 ?hy3 HS ?rest3
  case hi3 => simp only [List.getElem?_toArray, List.getElem?_cons_succ, List.getElem?_cons_zero]; exact rfl
  case hQ3 => exact fun _ _ _ h => h
  case hy3 =>
    refine Or.inl ⟨by rfl, ?_⟩
    intro wS hSw
    go_simp
    try with_reducible rfl
  try simp only [Act.put, List.setIfInBounds_toArray, List.set_cons_zero, List.set_cons_succ]
  refine wpAnyH_take (i := 4) (oi := ?oi4) (v := ?v4) ?hi4 (by kernel_rfl) (by kernel_rfl) (by kernel_rfl) ?hQ4 ?hy4 HS ?rest4
  case hi4 => simp only [List.getElem?_toArray, List.getElem?_cons_succ, List.getElem?_cons_zero]; exact rfl
  case hQ4 => exact fun _ _ _ h => h
  case hy4 =>
    refine Or.inl ⟨by rfl, ?_⟩
    intro wS hSw
    go_simp
    try with_reducible rfl
  try simp only [Act.put, List.setIfInBounds_toArray, List.set_cons_zero, List.set_cons_succ]
  refine wpAnyH_take (i := 5) (oi := ?oi5) (v := ?v5) ?hi5 (by kernel_rfl) (by kernel_rfl) (by kernel_rfl) ?hQ5 ?hy5 HS ?rest5
  case hi5 => simp only [List.getElem?_toArray, List.getElem?_cons_succ, List.getElem?_cons_zero]; exact rfl
  case hQ5 => exact fun _ _ _ h => h
  case hy5 =>
    refine Or.inl ⟨by rfl, ?_⟩
    intro wS hSw
    go_simp
    try with_reducible rfl
  try simp only [Act.put, List.setIfInBounds_toArray, List.set_cons_zero, List.set_cons_succ]
  refine wpAnyH_take (i := 6) (oi := ?oi6) (v := ?v6) ?hi6 (by kernel_rfl) (by kernel_rfl) (by kernel_rfl) ?hQ6 ?hy6 HS ?rest6
  case hi6 => simp only [List.getElem?_toArray, List.getElem?_cons_succ, List.getElem?_cons_zero]; exact rfl
  case hQ6 => exact fun _ _ _ h => h
  case hy6 =>
    refine Or.inl ⟨by rfl, ?_⟩
    intro wS hSw
    go_simp
    try with_reducible rfl
  try simp only [Act.put, List.setIfInBounds_toArray, List.set_cons_zero, List.set_cons_succ]
  refine wpAnyH_take (i := 7) (oi := ?oi7) (v := ?v7) ?hi7 (by kernel_rfl) (by kernel_rfl) (by kernel_rfl) ?hQ7 ?hy7 HS ?rest7
  case hi7 => simp only [List.getElem?_toArray, List.getElem?_cons_succ, List.getElem?_cons_zero]; exact rfl
  case hQ7 => exact fun _ _ _ h => h
  case hy7 =>
    refine Or.inl ⟨by rfl, ?_⟩
    intro wS hSw
    obtain ⟨p0, p1, p2, p3, -⟩ := Blk.v4 hSw.1
    rw [HPK.out] at p0
    go_simp
    try with_reducible rfl
  try simp only [Act.put, List.setIfInBounds_toArray, List.set_cons_zero, List.set_cons_succ]
  refine wpAnyH_take (i := 8) (oi := ?oi8) (v := ?v8) ?hi8 (by kernel_rfl) (by kernel_rfl) (by kernel_rfl) ?hQ8 ?hy8 HS ?rest8
  case hi8 => simp only [List.getElem?_toArray, List.getElem?_cons_succ, List.getElem?_cons_zero]; exact rfl
  case hQ8 => exact fun _ _ _ h => h
  case hy8 =>
    refine Or.inl ⟨by rfl, ?_⟩
    intro wS hSw
    go_simp
    try with_reducible rfl
  try simp only [Act.put, List.setIfInBounds_toArray, List.set_cons_zero, List.set_cons_succ]
  refine wpAnyH_ready (rs := [9]) (by kernel_rfl) (by simp) ?_
  refine AllReadyH.cons (o := ?o9) ?ho9 (fun K hK => ?step9) AllReadyH.nil
  case ho9 => simp only [List.getElem?_toArray, List.getElem?_cons_succ, List.getElem?_cons_zero]; exact rfl
  go_simp
  refine hK.out _ _ ⟨HS.1.old _, HS.2.alloc HS.2.size _⟩ (fun HS => ?_)
  clear hK K
  try simp only [Act.put, List.setIfInBounds_toArray, List.set_cons_zero, List.set_cons_succ]
  refine wpAnyH_ready (rs := [10]) (by kernel_rfl) (by simp) ?_
  refine AllReadyH.cons (o := ?o10) ?ho10 (fun K hK => ?step10) AllReadyH.nil
  case ho10 => simp only [List.getElem?_toArray, List.getElem?_cons_succ, List.getElem?_cons_zero]; exact rfl
  refine step_append_grows rfl _ _ 22 rfl 5 ti (.int .u8 0) 1 1 Tryz.underlying22 hti hz0 hz1 hz2 rfl (by decide) A n n (bs l) rfl ?hno ?hlo holds ⟨W.heap.size, 0, none⟩ 1 1 [Value.int .u8 (kk : Int)] rfl rfl hlit ?h1c (Nat.lt_succ_self n) (put_b HL.out.2).1 (put_b HL.out.2).2 ?_
  case hno => exact fun h => ⟨(HNO.out h).1, (HNO.out h).1⟩
  case hlo => rw [bs_len, HL.out.1, Nat.mul_one]
  case h1c => intro u hu; simp at hu; subst hu; rfl
  intro v' w3 hown0 hgr
  obtain ⟨A2, c2, rfl, hc2⟩ := own_form hown0
  have hB3 := grown_below hgr (Nat.le_refl _) (fun k h => by cases h)
  refine hK.out _ _ ⟨HS.1.bel hB3 HS.1.lt, HS.2.trans (hB3.mono HS.2.size)⟩ (fun HS => ?_)
  clear hK K
  try simp only [Act.put, List.setIfInBounds_toArray, List.set_cons_zero, List.set_cons_succ]
  refine wpAnyH_ready (rs := [11]) (by kernel_rfl) (by simp) ?_
  refine AllReadyH.cons (o := ?o11) ?ho11 (fun K hK => ?step11) AllReadyH.nil
  case ho11 => simp only [List.getElem?_toArray, List.getElem?_cons_succ, List.getElem?_cons_zero]; exact rfl
  go_simp
  refine hK.out _ _ HS (fun HS => ?_)
  clear hK K
  try simp only [Act.put, List.setIfInBounds_toArray, List.set_cons_zero, List.set_cons_succ]
  refine wpAnyH_done (by kernel_rfl) ?_ _
  obtain ⟨l1, hl1⟩ : ∃ l1, l1 = l ++ [UInt8.ofNat kk] := ⟨_, rfl⟩
  have hown : w3.ownsRow w.heap.size 5 1 (.slice A2 (n + 1) c2) (n + 1) (bs l1) := by
    rw [hl1, fh_bs (Nat.lt_trans HKK.out (by decide))]
    exact Joins.ownsRow_le hown0 hbA.size
  have hbel3 := HS.2
  have hlen1 : l1.length = n + 1 := by rw [hl1]; simp [HL.out.1]
  have HV : Hid (l ++ vPutR rv = l1 ++ (if vk rv = 1 then nat (fold (vn rv)) else if vk rv = 2 then [UInt8.ofNat (vn rv).toNat] else if vk rv = 3 then nat (vs rv).length ++ vs rv else if vk rv = 4 then leN 8 (vf rv) else [])) := hid (by
    rw [put_k, HPK.out, Int.toNat_natCast, hl1, List.append_assoc]; rfl)
  have HO := hid hown
  have HBT := hid ((Bts.own hown).wide (lo' := 0) (hi' := w3.heap.size) (Nat.zero_le _) (Nat.le_refl _))
  have HLN := hid hlen1
  have HB := hid hbel3
  obtain ⟨p0, p1, p2, p3, -⟩ := Blk.v4 HS.1
  clear HS H3 hlit hbA holds hown hown0 hgr hB3 hbel3 hl1 hlen1 HP HBEL HPK hsl e256 ew
  have e1 : ∀ c : Int, vk rv = c → ∀ x : Int, x ≠ c → (vk rv == x) = false := fun c h x hx => by rw [h]; simpa using fun e => hx e.symm
  rcases HK.out with h | h | h | h | h
  · have t1 := e1 0 h 1 (by decide)
    have t2 := e1 0 h 2 (by decide)
    have t3 := e1 0 h 3 (by decide)
    have t4 := e1 0 h 4 (by decide)
    have HE : Hid (l ++ vPutR rv = l1) := hid (by rw [HV.out, if_neg (by omega), if_neg (by omega), if_neg (by omega), if_neg (by omega), List.append_nil])
    clear e1 h HV
    go_wp2
    go_ret
    rw [HE.out]
    exact row_mk HLN.out hc2 HO.out HB.out
  · have t1 : (vk rv == 1) = true := by rw [h]; rfl
    have HE : Hid (l ++ vPutR rv = l1 ++ nat (fold (vn rv))) := hid (by rw [HV.out, if_pos h])
    clear e1 h HV
    go_wp2_with fail
    refine (number_c A2 (n + 1) c2 (vn rv) l1 w3 HBT.out (put_c1 HL.out.2) HN.out.1 HN.out.2).mono ?_
    intro e w4 hrow
    obtain ⟨A4, N4, c4, rfl, hN4, hc4, ho4, -, hb4⟩ := hrow.out
    have HR4 := hid (row_back hN4.out hc4 ho4 hb4 HB.out)
    clear ho4 hb4
    go_wp2
    go_ret
    rw [HE.out]
    exact HR4.out
  · have t1 := e1 2 h 1 (by decide)
    have t2 : (vk rv == 2) = true := by rw [h]; rfl
    have HE : Hid (l ++ vPutR rv = l1 ++ [UInt8.ofNat (vn rv).toNat]) := hid (by rw [HV.out, if_neg (by omega), if_pos h])
    have hbb := HB2.out h
    obtain ⟨bb, hbb2, hbb3⟩ : ∃ bb : Nat, vn rv = (bb : Int) ∧ bb < 2 := ⟨(vn rv).toNat, by omega, by omega⟩
    have e2 := put_w hbb2 hbb3
    have HBB := hid (And.intro hbb2 hbb3)
    have hbase := HB.out.size
    clear e1 h HV hbb hbb2 hbb3
    go_wp2_with (at_builtin; refine wpList_app1 _ rfl _ _ 22 _ rfl w.heap.size 5 (.int .u8 0) 1 Tryz.underlying22 Tryz.infoU8 rfl _ _ _ _ rfl HO.out _ rfl rfl (put_d HL.out.2).1 (put_d HL.out.2).2 hbase ?_)
    intro A4 c4 w4 hc4 hown4 _ hb4 hbs4
    have HR4 := hid (row_snoc HLN.out HBB.out.1 HBB.out.2 hc4 hown4 (HB.out.trans hb4))
    clear hown4 hb4
    go_wp2
    go_ret
    rw [HE.out]
    exact HR4.out
  · have t1 := e1 3 h 1 (by decide)
    have t2 := e1 3 h 2 (by decide)
    have t3 : (vk rv == 3) = true := by rw [h]; rfl
    have HE : Hid (l ++ vPutR rv = l1 ++ nat (str (vs rv)).size ++ (str (vs rv)).data.toList) := hid (by rw [HV.out, if_neg (by omega), if_neg (by omega), if_pos h, str_size, str_data, List.append_assoc])
    clear e1 h HV
    go_wp2_with fail
    refine (text_c A2 (n + 1) c2 (str (vs rv)) l1 w3 HBT.out (put_c2 HL.out.2) (by rw [str_size]; exact Nat.le_trans HSL.out (by decide))).mono ?_
    intro e w4 hrow
    obtain ⟨A4, N4, c4, rfl, hN4, hc4, ho4, -, hb4⟩ := hrow.out
    have HR4 := hid (row_back hN4.out hc4 ho4 hb4 HB.out)
    clear ho4 hb4
    go_wp2
    go_ret
    rw [HE.out]
    exact HR4.out
  · have t1 := e1 4 h 1 (by decide)
    have t2 := e1 4 h 2 (by decide)
    have t3 := e1 4 h 3 (by decide)
    have t4 : (vk rv == 4) = true := by rw [h]; rfl
    have HE : Hid (l ++ vPutR rv = l1 ++ leN 8 (vf rv)) := hid (by rw [HV.out, if_neg (by omega), if_neg (by omega), if_neg (by omega), if_pos h])
    clear e1 h HV
    go_wp2_with fail
    refine (addFloat_c A2 (n + 1) c2 (bs l1) w.heap.size (vf rv) w3 HO.out HB.out.size (put_c3 HL.out.2) HF.out).mono ?_
    rintro e w4 ⟨A4, c4, rfl, ho4, hb4⟩
    have HR4 := hid (row_eight HLN.out ho4 (HB.out.trans hb4))
    clear ho4 hb4
    go_wp2
    go_ret
    rw [HE.out]
    exact HR4.out
end Go.Proofs.YtfjpnkchldjjmaaGreatDoor
