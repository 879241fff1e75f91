/- The walk of RunsShort: it answers true, whatever the input. -/
import Derived.Test.YtolaojkcofbkhaaRuF
namespace Go.Proofs.Ytolaojkcofbkhaa
open Go.RowKit Go.ChangeShapes Go.WideShapes Go.ChangeAt

/-- How many changes numbers have. -/
def chg : List Int → Nat
  | [] => 0
  | [_] => 0
  | x :: y :: l => (if x = y then 0 else 1) + chg (y :: l)
theorem chg_snoc : ∀ (L : List Int) (x y : Int), L.getLast? = some y → chg (L ++ [x]) = chg L + if y = x then 0 else 1
  | [], _, _, h => by cases h
  | [a], x, y, h => by
    have e : a = y := by simpa using h
    subst e
    show (if a = x then 0 else 1) + 0 = 0 + _
    omega
  | a :: b :: L, x, y, h => by
    have h2 : (b :: L).getLast? = some y := by rw [← h]; exact (List.getLast?_cons_cons).symm
    have e : chg (a :: b :: L ++ [x]) = (if a = b then 0 else 1) + chg (b :: L ++ [x]) := rfl
    have e2 : chg (a :: b :: L) = (if a = b then 0 else 1) + chg (b :: L) := rfl
    rw [e, e2, chg_snoc (b :: L) x y h2]
    omega
theorem chg_le : ∀ L : List Int, chg L ≤ L.length
  | [] => Nat.le_refl _
  | [_] => Nat.zero_le _
  | x :: y :: l => by
    have := chg_le (y :: l)
    have e : chg (x :: y :: l) = (if x = y then 0 else 1) + chg (y :: l) := rfl
    rw [e, List.length_cons]
    split <;> omega
theorem chg_runs : ∀ L : List Int, chg L ≤ (rsO L).length
  | [] => Nat.le_refl _
  | [_] => Nat.zero_le _
  | x :: y :: l => by
    have ih := chg_runs (y :: l)
    have e : chg (x :: y :: l) = (if x = y then 0 else 1) + chg (y :: l) := rfl
    have e2 : rsO (x :: y :: l) = rsC x (rsO (y :: l)) := rfl
    obtain ⟨k, t, e3⟩ := rsO_head y l
    rw [e, e2]
    rw [e3] at ih ⊢
    by_cases h : x = y
    · subst h
      rw [rsC_same, if_pos rfl]
      simp at ih ⊢
      omega
    · rw [rsC_new h, if_neg h]
      simp at ih ⊢
      omega
theorem rnsB_ge : ∀ r : List (Int × Nat), 2 * r.length ≤ (rnsB r).length
  | [] => Nat.le_refl _
  | p :: r => by
    have h1 := nat_pos (fold p.1)
    have h2 := nat_pos p.2
    have := rnsB_ge r
    rw [rnsB_cons, List.length_append, List.length_cons]
    unfold rnB
    rw [List.length_append]
    omega
theorem ruP_ge (L : List Int) : 2 * chg L + 1 ≤ (ruP L).length := by
  have h1 := chg_runs L
  have h2 := rnsB_ge (rsO L)
  have h3 := nat_pos (rsO L).length
  unfold ruP
  rw [List.length_append]
  omega
theorem ruP_rep (v : Int) (hv : i64r v) (m : Nat) (hm : m < 16384) (h0 : 0 < m) : (ruP (List.replicate m v)).length ≤ 13 := by
  obtain ⟨k, rfl⟩ : ∃ k, m = k + 1 := ⟨m - 1, by omega⟩
  have e := rsO_rep v [] (fun q hq => by cases hq) k
  rw [List.append_nil] at e
  unfold ruP
  rw [e]
  show (nat 1 ++ (rnB (v, k + 1) ++ [])).length ≤ 13
  unfold rnB
  have h1 := nat_len_u64 (fold_lt hv.1 hv.2)
  have h2 := nat_len_le 1 (k + 1) (by omega)
  have h3 := nat_len_le 0 1 (by omega)
  simp only [List.length_append, List.length_nil]
  omega
theorem i64s_r (v : Int) (hv : i64r v) (m : Nat) : i64s (List.replicate m v) := fun x hx => by rw [(List.mem_replicate.1 hx).2]; exact hv
set_option maxRecDepth 100000 in
set_option maxHeartbeats 16000000 in
theorem walkRunsShort (v : Int) (u : Int) (A : Option Addr) (n c : Nat) (z0 : List Int) (w : World) (w0 : (Lit.int .i64 v).wf = true) (w1 : (Lit.int .u8 u).wf = true) (w2 : IsRow .i64 w A n c z0) :
    Calls Try.prog 5 #[.int .i64 v, .int .u8 u, .slice A n c] w fun e w' => e = .returned (.bool true) ∧ Below w.heap.size w w' := by
  obtain ⟨L, hL, hc, hi⟩ := argII w2
  have hz : L.length = n := by have := hL.1; rwa [ics_len] at this
  subst hz
  have HL := hid hL
  have HC := hid hc
  have HI := hid hi
  have HV : Hid (i64r v) := hid (wf_i64 w0)
  have hu := wf_u8 w1
  obtain ⟨k, rfl⟩ : ∃ k : Nat, u = (k : Int) := ⟨u.toNat, by omega⟩
  have HU : Hid (k < 256) := hid (by omega)
  have u1 : wrap64 (k : Int) = (k : Int) := by unfold wrap64; omega
  have u2 : wrap64 (1 + (k : Int)) = ((k + 1 : Nat) : Int) := by unfold wrap64; omega
  have u3 : IntKind.i64.wrap (k : Int) = (k : Int) := IntWalk.i64_in _ (by omega)
  clear w0 w1 w2 hL hc hi hu
  obtain ⟨M, hM⟩ : ∃ M, M = k + 1 := ⟨_, rfl⟩
  rw [← hM] at u2
  have HM := hid hM
  have HMM : Hid (0 < M ∧ M ≤ 256) := hid (by have := HU.out; omega)
  have HUU := hid (And.intro u1 (And.intro u2 u3))
  clear hM
  go_enter Try.func5, Try.ntmps5
  go_wp2_with fail
  refine (rufirst_c w).mono ?_
  rintro e w1 ⟨rfl, hb1⟩
  have HB1 := hid hb1
  clear hb1
  by_cases hbig : 250 < L.length
  · have e1 : decide ((250 : Int) < (L.length : Int)) = true := decide_eq_true (by omega)
    have e2 : decide (250 < L.length) = true := decide_eq_true hbig
    clear hbig
    go_wp2
    go_ret
    exact ⟨rfl, HB1.out⟩
  have e1 : decide ((250 : Int) < (L.length : Int)) = false := decide_eq_false (by omega)
  have e2 : decide (250 < L.length) = false := decide_eq_false hbig
  have HN : Hid (L.length ≤ 250) := hid (by omega)
  clear hbig
  go_wp2_with fail
  rw [u2]
  clear e1 e2 u1 u2 u3
  go_loopg [7, 22] M (fun kk lv iv wr => ∃ (j : Nat) (B : Option Addr) (d : Nat), lv = .slice B j d ∧ iv = .int .i64 (j : Int) ∧ Hid (kk = M - j) ∧ Hid (j ≤ M) ∧ Hid (wr.ownsRow w.heap.size 3 1 (.slice B j d) j (ics (List.replicate j v))) ∧ Hid (Below w.heap.size w wr))
  case atStart => exact ⟨0, none, 0, rfl, rfl, hid rfl, hid (Nat.zero_le _), hid (own_nilrow _ _ _ _), HB1⟩
  case round =>
  obtain ⟨j, B, d, rfl, rfl, hgk, hj, hO, hB⟩ := hrel
  rename World => wr
  rcases Nat.lt_or_ge j M with hlt | hge
  · have j2 : (j : Int) < (M : Int) := by omega
    have j3 : decide ((j : Int) < (M : Int)) = true := decide_eq_true j2
    have j4 : decide (j < M) = true := decide_eq_true hlt
    have HJ := hid hlt
    have wj : wrap64 ((j : Int) + 1) = ((j + 1 : Nat) : Int) := by have := HMM.out; unfold wrap64; omega
    have HCAP : Hid (j + 1 ≤ 1000) := hid (by have := HMM.out; omega)
    clear hlt
    go_wp2_with (at_builtin; refine wpList_app1 _ rfl _ _ 22 _ rfl w.heap.size 3 (.int .i64 0) 8 Try.underlying22 Try.infoI_ rfl _ _ _ _ rfl hO.out _ rfl rfl (by have := HCAP.out; omega) (by have := HCAP.out; unfold maxLen; omega) hB.out.size ?_)
    intro A5 c5 w5 hc5 ho5 hg5 hb5 hz5
    have HO5 : Hid (w5.ownsRow w.heap.size 3 1 (.slice A5 (j + 1) c5) (j + 1) (ics (List.replicate (j + 1) v))) := hid (by
      rw [List.replicate_succ', ics_app]
      exact ho5)
    have HB5 := hid (hB.out.trans hb5)
    clear hc5 ho5 hg5 hb5 hz5 hO hB
    go_wp2_with fail
    go_roundg (M - (j + 1))
    case measure => exact meas_j hgk.out HJ.out
    case rel => exact ⟨j + 1, A5, c5, rfl, by first | rfl | rw [wj], hid rfl, hid HJ.out, HO5, HB5⟩
  have hjM : j = M := by have := hj.out; omega
  subst hjM
  have j2 : ¬ (j : Int) < (j : Int) := by omega
  obtain ⟨R, hR⟩ : ∃ R, R = List.replicate j v := ⟨_, rfl⟩
  have HRI : Hid (i64s R) := hid (by rw [hR]; exact i64s_r v HV.out j)
  have HRL : Hid (R.length = j) := hid (by rw [hR, List.length_replicate])
  have HR13 : Hid ((ruP R).length ≤ 13) := hid (by rw [hR]; exact ruP_rep v HV.out j (by have := HMM.out; omega) HMM.out.1)
  rw [← hR] at hO
  have HRO : Hid (Lst wr 0 wr.heap.size B j (ics R)) := hid ((Lst.own hO.out).wide (Nat.zero_le _) (Nat.le_refl _))
  have HRC := hid (own_nc hO.out)
  clear hR hge hj hgk hO
  go_wp2_with fail
  refine (rput_c (w := wr) (L := R) HRO.out HRC.out (by have := HMM.out; omega) HRI.out).mono ?_
  rintro e w3 ⟨A3, c3, rfl, hc3, ho3, hb3⟩
  have HB3 : Hid (Below w.heap.size w w3) := hid (hB.out.trans (hb3.mono hB.out.size))
  have HO3 : Hid (Bts w3 0 w3.heap.size A3 (ruP R).length (ruP R)) := hid ((Bts.own ho3).wide (Nat.zero_le _) (Nat.le_refl _))
  have HR3 := hid ((HRO.out.below hb3 (Nat.le_refl _)).wide (Nat.le_refl _) hb3.size)
  clear hb3 ho3 hc3 hB HRO
  go_wp2_with fail
  go_loopg [9, 33] L.length (fun kk nv iv wq => ∃ i : Nat, nv = .int .i64 ((chg (L.take i) : Nat) : Int) ∧ iv = .int .i64 (i : Int) ∧ Hid (kk = L.length - i) ∧ Hid (i ≤ L.length) ∧ Hid (Below w3.heap.size w3 wq))
  case atStart => exact ⟨0, rfl, rfl, hid rfl, hid (Nat.zero_le _), hid (Below.refl _ _)⟩
  case round =>
  obtain ⟨i, rfl, rfl, hgk, hi, hB⟩ := hrel
  rename World => wq
  rcases Nat.lt_or_ge i L.length with hlt | hge
  · have i1 : (0 : Int) ≤ (i : Int) := by omega
    have i2 : (i : Int) < (L.length : Int) := by omega
    have i3 : decide ((i : Int) < (L.length : Int)) = true := decide_eq_true i2
    have i4 : decide (i < L.length) = true := decide_eq_true hlt
    have wi : wrap64 ((i : Int) + 1) = ((i + 1 : Nat) : Int) := by have := HN.out; unfold wrap64; omega
    have HLT := hid hlt
    have HCL : Hid (chg (L.take i) ≤ 250) := hid (by have := chg_le (L.take i); rw [List.length_take] at this; have := HN.out; omega)
    have HTK := hid (List.take_succ_eq_append_getElem hlt)
    rcases Nat.eq_zero_or_pos i with h0 | h0
    · subst h0
      have d1 : decide ((0 : Int) < ((0 : Nat) : Int)) = false := decide_eq_false (by omega)
      have HC1 : Hid (chg (L.take (0 + 1)) = chg (L.take 0)) := hid (by rw [HTK.out, List.take_zero]; rfl)
      generalize chg (L.take 0) = s at *
      clear HTK hlt
      go_wp2_with (go_quiet (fail))
      have HB2 := hid (bdQr nq hB.out)
      go_roundg (L.length - (0 + 1))
      case measure => exact meas_j hgk.out HLT.out
      case rel => exact ⟨0 + 1, by rw [HC1.out], by first | rfl | rw [wi], hid rfl, hid HLT.out, HB2⟩
    · have d1 : decide ((0 : Int) < (i : Int)) = true := decide_eq_true (by omega)
      have d2 : decide (0 < i) = true := decide_eq_true h0
      have HBW : Hid (Below w.heap.size w wq) := hid (HB3.out.trans (hB.out.mono HB3.out.size))
      obtain ⟨g, off, rfl, _, _, ci⟩ := lst_i (HL.out.below HBW.out (Nat.le_refl _)) hlt
      obtain ⟨p, hp⟩ : ∃ p, p + 1 = i := ⟨i - 1, by omega⟩
      have hpl : p < L.length := by omega
      obtain ⟨g', off', eg, _, _, cp⟩ := lst_i (HL.out.below HBW.out (Nat.le_refl _)) hpl
      injection eg with eg
      injection eg with eg1 eg2
      subst eg1 eg2
      have wp : wrap64 ((i : Int) - 1) = (p : Int) := by have := HN.out; unfold wrap64; omega
      have p1 : (0 : Int) ≤ (p : Int) := by omega
      have p2 : (p : Int) < (L.length : Int) := by omega
      have HLA : Hid ((L.take i).getLast? = some (L[p]'hpl)) := hid (by
        subst hp
        rw [List.take_succ_eq_append_getElem hpl, List.getLast?_concat])
      have HSN := hid (fun x => chg_snoc (L.take i) x (L[p]'hpl) HLA.out)
      obtain ⟨x, hx⟩ : ∃ x, L[i]'hlt = x := ⟨_, rfl⟩
      obtain ⟨y, hy⟩ : ∃ y, L[p]'hpl = y := ⟨_, rfl⟩
      rw [hx] at ci HTK
      rw [hy] at cp HSN HLA
      have HC1 : Hid (chg (L.take (i + 1)) = chg (L.take i) + if y = x then 0 else 1) := hid (by rw [HTK.out]; exact HSN.out x)
      generalize chg (L.take i) = s at *
      clear hlt hpl hx hy hp h0
      by_cases hxy : y = x
      · have z : (x != y) = false := by rw [hxy]; simp
        rw [if_pos hxy] at HC1
        have HXY := hid hxy
        subst hxy
        go_wp2_with (go_quiet (fail))
        have HB2 := hid (bdQr nq hB.out)
        go_roundg (L.length - (i + 1))
        case measure => exact meas_j hgk.out HLT.out
        case rel => exact ⟨i + 1, by rw [HC1.out]; rfl, by first | rfl | rw [wi], hid rfl, hid HLT.out, HB2⟩
      · have z : (x != y) = true := by simpa using fun e => hxy (Eq.symm e)
        have z2 : (x == y) = false := beq_eq_false_iff_ne.2 fun e => hxy (Eq.symm e)
        rw [if_neg hxy] at HC1
        have ws : wrap64 ((s : Int) + 1) = ((s + 1 : Nat) : Int) := by have := HCL.out; unfold wrap64; omega
        have HWS := hid ws
        clear hxy
        go_wp2_with (go_quiet (fail))
        have HB2 := hid (bdQr nq hB.out)
        go_roundg (L.length - (i + 1))
        case measure => exact meas_j hgk.out HLT.out
        case rel => exact ⟨i + 1, by rw [HC1.out]; first | rfl | rw [HWS.out], by first | rfl | rw [wi], hid rfl, hid HLT.out, HB2⟩
  have hiL : i = L.length := by have := hi.out; omega
  subst hiL
  have i2 : ¬ (L.length : Int) < (L.length : Int) := by omega
  have HCH : Hid (2 * chg L + 1 ≤ (ruP L).length ∧ chg L ≤ 250) := hid ⟨ruP_ge L, by have := chg_le L; have := HN.out; omega⟩
  rw [List.take_length]
  generalize chg L = s at *
  have HBW : Hid (Below w.heap.size w wq) := hid (HB3.out.trans (hB.out.mono HB3.out.size))
  clear hge hi hgk
  go_wp2_with fail
  refine (rput_c (w := wq) ((HL.out.below HBW.out (Nat.le_refl _)).wide (Nat.le_refl _) HBW.out.size) HC.out (by have := HN.out; omega) HI.out).mono ?_
  rintro e w4 ⟨A4, c4, rfl, hc4, ho4, hb4⟩
  have HB34 : Hid (Below w3.heap.size w3 w4) := hid (hB.out.trans (hb4.mono hB.out.size))
  have HB4 : Hid (Below w.heap.size w w4) := hid (HBW.out.trans (hb4.mono HBW.out.size))
  have HO4 := hid ((HO3.out.below HB34.out (Nat.le_refl _)).wide (Nat.le_refl _) HB34.out.size)
  have HR4 := hid ((HR3.out.below HB34.out (Nat.le_refl _)).wide (Nat.le_refl _) HB34.out.size)
  have u1 := HUU.out.1
  have u2 := HUU.out.2.1
  have u3 := HUU.out.2.2
  clear hb4 ho4 hc4 hB HBW
  go_wp2_with fail
  rw [u2]
  refine (rget_c (w := w4) (b := ruP R) HO4.out (by have := HR13.out; omega) (j : Int) (by have := HMM.out; omega)).mono ?_
  rintro e w5 ⟨l5, ok5, A5, c5, rfl, hg5, ho5, hc5, hb5⟩
  obtain ⟨rfl, rfl⟩ := RuG.isIt (l := R) (x := true) (.inl ⟨rfl, by omega, by have := HMM.out; omega, by rw [HRL.out], HRI.out, rfl⟩) hg5
  have HB5 : Hid (Below w.heap.size w w5) := hid (HB4.out.trans (hb5.mono HB4.out.size))
  have HR5 := hid ((HR4.out.below hb5 (Nat.le_refl _)).wide (Nat.le_refl _) hb5.size)
  rename List Int => R
  have hsame := isame_c (w := w5) (c := c5) (d := d) (a := R) (b := R) ho5 HR5.out (by rw [HRL.out]; have := HMM.out; omega) (by have := HMM.out; omega)
  clear hg5 ho5 hc5 hb5 u1 u2 u3
  obtain ⟨P, hP⟩ : ∃ P, P = (ruP R).length := ⟨_, rfl⟩
  obtain ⟨Q, hQ⟩ : ∃ Q, Q = (ruP L).length := ⟨_, rfl⟩
  rw [← hP] at HR13 ⊢
  rw [← hQ] at HCH ⊢
  have q1 : decide ((P : Int) ≤ 13) = true := decide_eq_true (by have := HR13.out; omega)
  have q2 : decide (P ≤ 13) = true := decide_eq_true HR13.out
  clear hP hQ
  go_wp2_with fail
  refine hsame.mono ?_
  rintro e w6 ⟨rfl, hb6⟩
  have HB6 : Hid (Below w.heap.size w w6) := hid (HB5.out.trans (hb6.mono HB5.out.size))
  have q3 : decide (R = R) = true := decide_eq_true rfl
  have q4 : wrap64 (2 * (s : Int)) = ((2 * s : Nat) : Int) := by have := HCH.out; unfold wrap64; omega
  have q5 : wrap64 (((2 * s : Nat) : Int) + 1) = ((2 * s + 1 : Nat) : Int) := by have := HCH.out; unfold wrap64; omega
  have q6 : wrap64 (2 * (s : Int) + 1) = ((2 * s + 1 : Nat) : Int) := by have := HCH.out; unfold wrap64; omega
  obtain ⟨T, hT⟩ : ∃ T, T = 2 * s + 1 := ⟨_, rfl⟩
  rw [← hT] at q5 q6
  have q7 : decide ((T : Int) ≤ (Q : Int)) = true := decide_eq_true (by have := HCH.out; omega)
  have q8 : decide (T ≤ Q) = true := decide_eq_true (by have := HCH.out; omega)
  clear hb6 hsame hT
  go_wp2
  go_ret
  exact ⟨rfl, HB6.out⟩
end Go.Proofs.Ytolaojkcofbkhaa
