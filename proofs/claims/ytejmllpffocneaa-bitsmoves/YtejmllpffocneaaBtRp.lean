/- What strongroomref12.Put returns. Nothing is assumed. -/
import Derived.Test.YtejmllpffocneaaBtD
import Derived.Test.YtejmllpffocneaaBmP
import Derived.Test.YtejmllpffocneaaPkRef
namespace Go.Proofs.Ytejmllpffocneaa
open Go.RowKit

theorem mn_step {l : List Int} {j : Nat} (h : j < l.length) : mnL (l.take (j + 1)) = min (mnL (l.take (max 1 j))) l[j] ∧ mxL (l.take (j + 1)) = max (mxL (l.take (max 1 j))) l[j] := by
  rcases Nat.eq_zero_or_pos j with h0 | h0
  · subst h0
    cases l with
    | nil => cases h
    | cons x t =>
      have e1 : mnL [x] = x := rfl
      have e2 : mxL [x] = x := rfl
      simp [e1, e2]
  · rw [show max 1 j = j by omega, take_snoc h, mnL_snoc (take_ne h0 h), mxL_snoc (take_ne h0 h)]
    exact ⟨rfl, rfl⟩
/-- Two rows of unlike types lie in two blocks. -/
theorem own_unlike {w w' : World} {b1 b2 n m c d : Nat} {e f : TypeId} {A B : Option Addr} {xs ys : List Value} (h : w.ownsRow b1 e 1 (.slice A n c) n xs) (g : w.ownsRow b2 f 1 (.slice B m d) m ys) (hef : e ≠ f) (hg : w.grownBy w' (B.map (·.block))) : w'.ownsRow b1 e 1 (.slice A n c) n xs := own_keep h fun t ht => hg.block t (own_lt h t ht) fun e2 => by
  rcases h.2 with ⟨hv, _⟩ | ⟨g1, cap, cur, hv, _, hg1, _⟩
  · injection hv with hA; subst hA; cases ht
  · rcases g.2 with ⟨hu, _⟩ | ⟨g2, cap2, cur2, hu, _, hg2, _⟩
    · injection hu with hB; subst hB; cases e2
    · injection hv with hA
      injection hu with hB
      subst hA hB
      have k1 : g1 = t := by simpa using ht
      have k2 : t = g2 := by simpa using e2
      subst k1 k2
      rw [hg1] at hg2
      injection hg2 with hg2
      injection hg2 with _ hg2 _
      exact hef hg2
theorem bl_pos {d : Nat} (h0 : d ≠ 0) (h : d < 18446744073709551616) : Lib.bitLen d = Lib.bitLen (d / 2) + 1 := by
  rw [Lib.bitLen_half d h0 h]
  omega
theorem u64_half (d : Nat) (h : d < 18446744073709551616) : IntKind.u64.wrap (((d / 2 : Nat) : Int)) = ((d / 2 : Nat) : Int) := IntWalk.u64_in _ (by omega)
set_option maxRecDepth 100000 in
set_option maxHeartbeats 16000000 in
theorem rbtput_c {w : World} {n c : Nat} {A : Option Addr} {l : List Int} (h : Lst w 0 w.heap.size A n (ics l)) (hn : n ≤ 1000) (h64 : i64s l) :
    Calls Try.prog 9 #[.slice A n c] w (Row w (btP l)) := by
  have hl : l.length = n := by have := h.1; rwa [ics_len] at this
  by_cases h0 : n = 0
  · subst h0
    have hL : l = [] := List.eq_nil_of_length_eq_zero hl
    subst hL
    clear h hn h64 hl
    go_enter Try.func9, Try.ntmps9
    go_wp2
    go_ret
    exact ⟨none, 0, rfl, Nat.le_refl _, own_nilrow _ _ _ _, Below.refl _ _⟩
  have HNE : Hid (l ≠ []) := hid (fun e => h0 (by rw [← hl, e]; rfl))
  obtain ⟨g0, o0, rfl, _, hg0, hc0⟩ := lst_i h (j := 0) (by omega)
  have HL := hid h
  have HLL := hid hl
  have HN := hid hn
  have HP := hid (Nat.pos_of_ne_zero h0)
  have H64 := hid h64
  have H1 : Hid (mnL (l.take (max 1 0)) = l[0] ∧ mxL (l.take (max 1 0)) = l[0]) := hid (by
    cases l with
    | nil => exact absurd rfl HNE.out
    | cons x t => exact ⟨rfl, rfl⟩)
  generalize l[0] = x0 at *
  rw [Nat.add_zero] at hc0
  have n1 : ((n : Int) == 0) = false := by simp; omega
  have n2 : ¬ (n : Int) = 0 := by omega
  have n3 : (0 : Int) < (n : Int) := by omega
  clear h hl hn h64 h0
  go_enter Try.func9, Try.ntmps9
  go_wp2_with fail
  go_region
  have HBD : Hid (Below w.heap.size w w.drew) := hid (Below.refl _ _).drew
  generalize w.drew = wd at *
  clear hc0 n1 n2 n3
  go_wp2_with fail
  go_loopg [3, 4, 25] n (fun kk mv xv iv wr => ∃ (j : Nat) (M X : Int), mv = .int .i64 M ∧ xv = .int .i64 X ∧ iv = .int .i64 (j : Int) ∧ Hid (kk = n - j) ∧ Hid (j ≤ n) ∧ Hid (mnL (l.take (max 1 j)) = M ∧ mxL (l.take (max 1 j)) = X) ∧ wr = wd)
  case atStart => exact ⟨0, x0, x0, rfl, rfl, rfl, hid rfl, hid (Nat.zero_le _), H1, rfl⟩
  case round =>
    obtain ⟨j, M, X, rfl, rfl, rfl, hgk, hj, hM, rfl⟩ := hrel
    rename World => wd
    rcases Nat.lt_or_ge j n with hlt | hge
    · have hjl : j < l.length := by rw [HLL.out]; exact hlt
      have j1 : (0 : Int) ≤ (j : Int) := by omega
      have j2 : (j : Int) < (n : Int) := by omega
      have j3 : decide ((j : Int) < (n : Int)) = true := by simpa using hlt
      have wj : wrap64 ((j : Int) + 1) = ((j + 1 : Nat) : Int) := by have := HN.out; unfold wrap64; omega
      obtain ⟨g, off, e, _, _, hcell⟩ := lst_i (HL.out.below HBD.out (Nat.le_refl _)) hjl
      injection e with e
      injection e with e1 e2
      subst e1 e2
      have HJ := hid hlt
      have HM2 : Hid (mnL (l.take (j + 1)) = min M l[j] ∧ mxL (l.take (j + 1)) = max X l[j]) := hid (by
        have := mn_step hjl
        rw [hM.out.1, hM.out.2] at this
        exact this)
      have HJ1 : Hid (max 1 (j + 1) = j + 1) := hid (by omega)
      generalize l[j] = x at *
      clear hlt hjl hM
      obtain ⟨m, hm⟩ : ∃ m, min M x = m := ⟨_, rfl⟩
      obtain ⟨m', hm'⟩ : ∃ m', max X x = m' := ⟨_, rfl⟩
      rw [hm, hm'] at HM2
      have hmi : (if x < M then x else M) = m := by rw [← hm]; split <;> omega
      have hmj : (if M < x then M else x) = m := by rw [← hm]; split <;> omega
      have hmk : (if X < x then x else X) = m' := by rw [← hm']; split <;> omega
      have hml : (if x < X then X else x) = m' := by rw [← hm']; split <;> omega
      have HQ := hid (And.intro hm hm')
      clear hm hm'
      go_wp2_with fail
      go_roundg (n - (j + 1))
      case measure => exact meas_j hgk.out HJ.out
      case rel => exact ⟨j + 1, m, m', by first | rfl | rw [HQ.out.1], by first | rfl | rw [HQ.out.2], by first | rfl | rw [wj], hid rfl, hid HJ.out, hid (by rw [HJ1.out]; exact HM2.out), rfl⟩
    · have hjn : n = j := by have := hj.out; omega
      subst hjn
      have j2 : ¬ (n : Int) < (n : Int) := by omega
      have HMX : Hid (mnL l = M ∧ mxL l = X) := hid (by
        have h1 := hM.out
        have h2 := HP.out
        rwa [List.take_of_length_le (by have := HLL.out; omega)] at h1)
      have HM64 : Hid (i64r M) := hid (by rw [← HMX.out.1]; exact H64.out _ (mnL_in HNE.out))
      have HX64 : Hid (i64r X) := hid (by rw [← HMX.out.2]; exact H64.out _ (mxL_in HNE.out))
      have hle : M ≤ X := by rw [← HMX.out.1, ← HMX.out.2]; exact mnL_le (mxL_in HNE.out)
      have hsub := u64_sub HX64.out HM64.out hle
      have hdl := di_lt HX64.out HM64.out
      have HWL : Hid (wdL l = Lib.bitLen (di X M)) := hid (by unfold wdL; rw [HMX.out.1, HMX.out.2])
      obtain ⟨d, hd⟩ : ∃ d, di X M = d := ⟨_, rfl⟩
      rw [hd] at hsub hdl HWL
      have HD := hid hdl
      have HB64 := hid (bl_le hdl)
      clear hge hj hgk hM hle hd hdl
      go_wp2_with fail
      clear hsub
      go_loopg [7, 8] (Lib.bitLen d) (fun kk iv dv wr => ∃ (i v : Nat), iv = .int .i64 (i : Int) ∧ dv = .int .u64 (v : Int) ∧ Hid (kk = Lib.bitLen v) ∧ Hid (i + Lib.bitLen v = Lib.bitLen d) ∧ Hid (v < 18446744073709551616) ∧ wr = wd)
      case atStart => exact ⟨0, d, rfl, rfl, hid rfl, hid (Nat.zero_add _), HD, rfl⟩
      case round =>
        obtain ⟨i, v, rfl, rfl, hgk, hiv, hv, rfl⟩ := hrel
        rename World => wd
        rcases Nat.eq_zero_or_pos v with hv0 | hv0
        · subst hv0
          have hi : i = Lib.bitLen d := by have := hiv.out; rw [bl_zero] at this; exact this
          have HIW : Hid (wdL l = i) := hid (by rw [HWL.out, hi])
          have HW : Hid (i ≤ 64) := hid (by rw [hi]; exact HB64.out)
          have HX := hid (fun (t : Nat) (ht : t < l.length) => And.intro (H64.out _ (List.getElem_mem ht)) (show M ≤ l[t] by rw [← HMX.out.1]; exact mnL_le (List.getElem_mem ht)))
          have HQ : Hid (n * i ≤ 64000) := hid (Nat.le_trans (Nat.mul_le_mul HN.out HW.out) (by decide))
          clear hi hgk hiv hv HB64 HD HWL
          obtain ⟨W, hW⟩ : ∃ W, W = i := ⟨_, rfl⟩
          rw [← hW] at HIW HW HQ ⊢
          clear hW
          go_wp2_with fail
          go_loopg [9, 49] n (fun kk tv iv wr => ∃ (j P : Nat) (B : Option Addr) (d : Nat), tv = .slice B P d ∧ iv = .int .i64 (j : Int) ∧ Hid (P = j * W) ∧ Hid (kk = n - j) ∧ Hid (j ≤ n) ∧ Hid (wr.ownsRow w.heap.size 4 1 (.slice B P d) P (bls (dfs (l.take j) M W))) ∧ Hid (Below w.heap.size w wr))
          case atStart => exact ⟨0, 0, none, 0, rfl, rfl, hid (Nat.zero_mul _).symm, hid rfl, hid (Nat.zero_le _), hid (own_nilrow _ _ _ _), HBD⟩
          case round =>
            obtain ⟨j, P, B, d, rfl, rfl, hP, hgk, hj, hO, hB⟩ := hrel
            rename World => wr
            rcases Nat.lt_or_ge j n with hlt | hge
            · have hjl : j < l.length := by rw [HLL.out]; exact hlt
              have j1 : (0 : Int) ≤ (j : Int) := by omega
              have j2 : (j : Int) < (n : Int) := by omega
              have j3 : decide ((j : Int) < (n : Int)) = true := by simpa using hlt
              have wj : wrap64 ((j : Int) + 1) = ((j + 1 : Nat) : Int) := by have := HN.out; exact w64_nat (m := j + 1) (by omega)
              obtain ⟨g, off, e, _, hgl, hcell⟩ := lst_i (HL.out.below hB.out (Nat.le_refl _)) hjl
              injection e with e
              injection e with e1 e2
              subst e1 e2
              have HJ := hid hlt
              obtain ⟨x1, x2⟩ := HX.out j hjl
              have HT := hid (dfs_take hjl M W)
              have HPQ : Hid (P + W ≤ 64000) := hid (by
                have h1 := HQ.out
                have h2 : (j + 1) * W ≤ n * W := Nat.mul_le_mul_right W hlt
                rw [Nat.succ_mul] at h2
                have h3 := hP.out
                omega)
              have HP2 : Hid (P + W = (j + 1) * W) := hid (by rw [Nat.succ_mul, hP.out])
              generalize l[j] = x at *
              have HDD := hid (di_lt x1 HM64.out)
              have hsub := u64_sub x1 HM64.out x2
              obtain ⟨D, hDe⟩ : ∃ D, di x M = D := ⟨_, rfl⟩
              rw [hDe] at hsub HDD HT
              clear hlt hjl x1 x2 hDe
              go_wp2_with fail
              clear hsub
              go_loopg [9, 12, 13] W (fun k2 tv dv iv wx => ∃ (i v R : Nat) (B2 : Option Addr) (d2 : Nat), tv = .slice B2 R d2 ∧ dv = .int .u64 (v : Int) ∧ iv = .int .i64 (i : Int) ∧ Hid (v = D / 2 ^ i) ∧ Hid (R = P + i) ∧ Hid (k2 = W - i) ∧ Hid (i ≤ W) ∧ Hid (wx.ownsRow w.heap.size 4 1 (.slice B2 R d2) R (bls (dfs (l.take j) M W ++ dBits i D))) ∧ Hid (Below w.heap.size w wx))
              case atStart => exact ⟨0, D, P, _, _, rfl, rfl, rfl, hid (by simp), hid rfl, hid rfl, hid (Nat.zero_le _), hid (by simpa [dBits] using hO.out), hB⟩
              case round =>
                obtain ⟨i, v, R, B2, d2, rfl, rfl, rfl, hv, hR, hgk2, hi, hO2, hB2⟩ := hrel
                clear hB hO
                rename World => wx
                rcases Nat.lt_or_ge i W with hlt | hge
                · have i2 : (i : Int) < (W : Int) := by omega
                  have i3 : decide ((i : Int) < (W : Int)) = true := by simpa using hlt
                  have HI := hid hlt
                  have wi : wrap64 ((i : Int) + 1) = ((i + 1 : Nat) : Int) := by have := HW.out; exact w64_nat (m := i + 1) (by omega)
                  obtain ⟨y, hy⟩ : ∃ y, y = ((v : Int) % 2 == 1) := ⟨_, rfl⟩
                  have HY : Hid (y = bt D i) := hid (by rw [hy, bt_v hv.out])
                  have HV2 := hid (half_step hv.out)
                  obtain ⟨p, hp⟩ : ∃ p, p = v / 2 := ⟨_, rfl⟩
                  obtain ⟨t1, t2, t3⟩ := @bt_t v
                  rw [← hp] at t2 t3 HV2
                  have hpl : p < 18446744073709551616 := by
                    rw [HV2.out]
                    exact Nat.lt_of_le_of_lt (Nat.div_le_self _ _) HDD.out
                  have u1 : IntKind.u64.wrap (p : Int) = (p : Int) := IntWalk.u64_in _ (by omega)
                  have HCAP : Hid (R + 1 ≤ 64000) := hid (by have := HPQ.out; have := hR.out; omega)
                  have hsz := hB2.out.size
                  clear hlt hp hpl
                  go_wp2_with (at_builtin; refine wpList_app1 _ rfl _ _ 39 _ rfl w.heap.size 4 (.bool false) 1 Try.underlying39 Try.infoB_ rfl _ _ _ _ rfl hO2.out _ rfl rfl (by have := HCAP.out; omega) (by have := HCAP.out; unfold maxLen; omega) hsz ?_)
                  intro A4 c4 w4 hc4 ho4 _ hb4 _
                  have HO4 : Hid (w4.ownsRow w.heap.size 4 1 (.slice A4 (R + 1) c4) (R + 1) (bls (dfs (l.take j) M W ++ dBits (i + 1) D))) := hid (by rw [dBits_succ, ← List.append_assoc, bls_snoc, ← HY.out, hy]; exact ho4)
                  have HB4 := hid (hB2.out.trans hb4)
                  have HR4 : Hid (R + 1 = P + (i + 1)) := hid (by have := hR.out; omega)
                  clear ho4 hb4 hsz hc4 HY hO2 hB2
                  go_wp2_with fail
                  go_roundg (W - (i + 1))
                  case measure => exact meas_j hgk2.out HI.out
                  case rel => exact ⟨i + 1, p, R + 1, A4, c4, rfl, by first | rfl | (rw [t3]; done) | (rw [t2]; done), by first | rfl | rw [wi], HV2, HR4, hid rfl, hid HI.out, HO4, HB4⟩
                · have hik : i = W := by have := hi.out; omega
                  subst hik
                  have i2 : ¬ (i : Int) < (i : Int) := by omega
                  have HO3 : Hid (wx.ownsRow w.heap.size 4 1 (.slice B2 R d2) R (bls (dfs (l.take (j + 1)) M i))) := hid (by rw [HT.out]; exact hO2.out)
                  have HR3 : Hid (R = (j + 1) * i) := hid (by rw [hR.out]; exact HP2.out)
                  clear hge hi hgk2 hO2
                  go_wp2_with fail
                  go_roundg (n - (j + 1))
                  case measure => exact meas_j hgk.out HJ.out
                  case rel => exact ⟨j + 1, R, B2, d2, rfl, by first | rfl | rw [wj], HR3, hid rfl, hid HJ.out, HO3, hB2⟩
            · have hjn : n = j := by have := hj.out; omega
              subst hjn
              have j2 : ¬ (n : Int) < (n : Int) := by omega
              have HF : Hid (wr.ownsRow w.heap.size 4 1 (.slice B P d) P (bls (dfs l M W))) := hid (by have := hO.out; rwa [List.take_of_length_le (Nat.le_of_eq HLL.out)] at this)
              have HPB : Hid (P ≤ 64000) := hid (by have := hP.out; have := HQ.out; omega)
              clear hge hj hgk hO
              go_wp2_with fail
              refine (refFolded_c M wr HM64.out.1 HM64.out.2).mono ?_
              rintro e w3 ⟨rfl, rfl⟩
              go_wp2_with fail
              refine (refNatural_c (fold M) (fold M) _ (Nat.le_refl _) (fold_lt HM64.out.1 HM64.out.2)).mono ?_
              intro e w4 hr4
              obtain ⟨A4, n4, c4, rfl, hn4, hc4, ho4, hBB4, hb4⟩ := hr4.out
              have HN4 : Hid (n4 ≤ 10) := hid (by have := hn4.out; have := nat_len_u64 (fold_lt HM64.out.1 HM64.out.2); omega)
              have HNL := hid hn4.out
              have HO4 := hid (own_lower ho4 hB.out.size)
              have HF4 := hid (own_bel HF.out hb4)
              have HB4 := hid (hB.out.trans (hb4.mono hB.out.size))
              have w8 : IntKind.u8.wrap (W : Int) = (W : Int) := IntWalk.u8_in _ (by have := HW.out; omega)
              have hPd := own_nc HF4.out
              have HPD := hid hPd
              clear hr4 hn4 hc4 ho4 hBB4 hb4 HF hPd
              go_wp2_with (at_builtin; refine wpList_app1 _ rfl _ _ 24 _ rfl w.heap.size 5 (.int .u8 0) 1 Try.underlying24 Try.info5 rfl _ _ _ _ rfl HO4.out _ rfl rfl (by have := HN4.out; omega) (by have := HN4.out; unfold maxLen; omega) HB4.out.size ?_)
              intro A5 c5 w5 hc5 ho5 hg5 hb5 hz5
              have HO5 : Hid (w5.ownsRow w.heap.size 5 1 (.slice A5 (n4 + 1) c5) (n4 + 1) (bs (nat (fold M) ++ [UInt8.ofNat W]))) := hid (by
                rw [bs_snoc (by have := HW.out; omega)]
                exact ho5)
              have HB5 := hid (HB4.out.trans hb5)
              have HF5 : Hid (Lst w5 0 w5.heap.size B P (bls (dfs l M W))) := hid ((Lst.own (own_unlike HF4.out HO4.out (by decide) hg5)).wide (Nat.zero_le _) (Nat.le_refl _))
              clear hc5 ho5 hg5 hb5 hz5
              go_wp2_with fail
              refine (brput_c HF5.out HPD.out (by have := HPB.out; omega)).mono ?_
              rintro e w6 ⟨A6, c6, rfl, -, ho6, hb6⟩
              have HZL : Hid ((bmP (dfs l M W)).length ≤ 64000) := hid (by
                rw [bmP_len, dfs_len, HLL.out]
                have := HQ.out
                unfold nby
                omega)
              have HBTP : Hid (btP l = nat (fold M) ++ [UInt8.ofNat W] ++ bmP (dfs l M W)) := hid (by
                rw [btP_of HNE.out]
                unfold btB
                rw [HIW.out, HMX.out.1, List.append_assoc]
                rfl)
              generalize bmP (dfs l M W) = z at *
              obtain ⟨nz, hnz⟩ : ∃ nz, z.length = nz := ⟨_, rfl⟩
              rw [hnz] at ho6 HZL ⊢
              have HNZ := hid hnz
              have HO6 := hid (own_bel HO5.out hb6)
              have HZ6 := hid ((Lst.own ho6).wide (Nat.zero_le _) (Nat.le_refl _))
              have HB6 := hid (HB5.out.trans (hb6.mono HB5.out.size))
              clear ho6 hb6 hnz w8 HF5 HO5
              go_wp2_with (at_builtin; refine wpList_appL _ rfl _ _ 24 rfl w.heap.size 5 (.int .u8 0) 1 Try.underlying24 Try.info5 rfl _ _ _ _ rfl HO6.out _ _ _ _ _ _ rfl HZ6.out (bs_one _) (by have := HN4.out; have := HZL.out; omega) (by have := HN4.out; have := HZL.out; unfold maxLen; omega) HB6.out.size ?_)
              intro A7 c7 w7 hc7 ho7 hg7 hb7 hz7
              have HLN : Hid ((btP l).length = n4 + 1 + nz) := hid (by rw [HBTP.out, List.length_append, List.length_append, HNL.out, HNZ.out]; rfl)
              go_wp2
              go_ret
              refine ⟨A7, c7, ?_, ?_, ?_, HB6.out.trans hb7⟩
              · rw [HLN.out]; rfl
              · rw [HLN.out]; exact hc7
              · rw [HLN.out, HBTP.out, bs_app]; exact ho7
        · have v1 : (0 : Int) < (v : Int) := by omega
          have v2 : decide ((0 : Int) < (v : Int)) = true := decide_eq_true v1
          have hb := bl_pos (Nat.pos_iff_ne_zero.1 hv0) hv.out
          have HV2 : Hid (v / 2 < 18446744073709551616) := hid (by have := hv.out; omega)
          have HBI : Hid (Lib.bitLen (v / 2) < gk ∧ i + 1 + Lib.bitLen (v / 2) = Lib.bitLen d) := hid (by have := hgk.out; have := hiv.out; omega)
          obtain ⟨p, hp⟩ : ∃ p, p = v / 2 := ⟨_, rfl⟩
          obtain ⟨t1, t2, t3⟩ := @bt_t v
          rw [← hp] at t2 t3 HV2 HBI
          have u1 : IntKind.u64.wrap (p : Int) = (p : Int) := IntWalk.u64_in _ (by have := HV2.out; omega)
          have wi : wrap64 ((i : Int) + 1) = ((i + 1 : Nat) : Int) := by have := HBI.out.2; have := HB64.out; unfold wrap64; omega
          clear hb hp hv0
          go_wp2_with fail
          go_roundg (Lib.bitLen p)
          case measure => exact HBI.out.1
          case rel => exact ⟨i + 1, p, by first | rfl | rw [wi], by first | rfl | (rw [t3]; done) | (rw [t2]; done), hid rfl, hid HBI.out.2, HV2, rfl⟩
end Go.Proofs.Ytejmllpffocneaa
