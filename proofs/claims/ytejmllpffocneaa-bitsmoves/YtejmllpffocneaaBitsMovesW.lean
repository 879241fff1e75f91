/- The walk of BitsMoves: it answers true, whatever the input. -/
import Derived.Test.YtejmllpffocneaaBtF
namespace Go.Proofs.Ytejmllpffocneaa
open Go.RowKit Go.ChangeShapes Go.WideShapes Go.ChangeAt

/-- Numbers that are all moved by as much. -/
def mvL (k : Int) (l : List Int) : List Int := l.map fun x => x + k
theorem mvL_nil (k : Int) : mvL k [] = [] := rfl
theorem mvL_snoc (k : Int) (l : List Int) (x : Int) : mvL k (l ++ [x]) = mvL k l ++ [x + k] := by simp [mvL]
theorem foldl_mv (k : Int) : ∀ (t : List Int) (x : Int), (mvL k t).foldl min (x + k) = t.foldl min x + k ∧ (mvL k t).foldl max (x + k) = t.foldl max x + k
  | [], _ => ⟨rfl, rfl⟩
  | y :: t, x => by
    have e1 : min (x + k) (y + k) = min x y + k := by omega
    have e2 : max (x + k) (y + k) = max x y + k := by omega
    have h1 := foldl_mv k t (min x y)
    have h2 := foldl_mv k t (max x y)
    refine ⟨?_, ?_⟩
    · show (mvL k t).foldl min (min (x + k) (y + k)) = _
      rw [e1]
      exact h1.1
    · show (mvL k t).foldl max (max (x + k) (y + k)) = _
      rw [e2]
      exact h2.2
theorem mv_ends (k : Int) {l : List Int} (h : l ≠ []) : mnL (mvL k l) = mnL l + k ∧ mxL (mvL k l) = mxL l + k := by
  cases l with
  | nil => exact absurd rfl h
  | cons x t => exact foldl_mv k t x
theorem di_mv (x m k : Int) : di (x + k) (m + k) = di x m := by unfold di; omega
theorem dfs_mv (k m : Int) (w : Nat) : ∀ l : List Int, dfs (mvL k l) (m + k) w = dfs l m w
  | [] => rfl
  | x :: l => by
    show dfs ((x + k) :: mvL k l) (m + k) w = _
    rw [dfs_cons, dfs_cons, di_mv, dfs_mv k m w l]
/-- What stands behind the least number. -/
def tlB (l : List Int) : List UInt8 := UInt8.ofNat (wdL l) :: bmP (dfs l (mnL l) (wdL l))
theorem tl_mv (k : Int) {l : List Int} (h : l ≠ []) : tlB (mvL k l) = tlB l := by
  obtain ⟨h1, h2⟩ := mv_ends k h
  have h3 : wdL (mvL k l) = wdL l := by unfold wdL; rw [h1, h2, di_mv]
  unfold tlB
  rw [h3, h1, dfs_mv]
theorem btP_tl {l : List Int} (h : l ≠ []) : btP l = nat (fold (mnL l)) ++ tlB l := btP_of h
def near (x : Int) : Prop := -1099511627776 < x ∧ x < 1099511627776
theorem near_mod (v : Int) : near (wrap64 (v.tmod 1099511627776)) ∧ wrap64 (v.tmod 1099511627776) = v.tmod 1099511627776 := by
  have h1 : -1099511627776 < v.tmod 1099511627776 ∧ v.tmod 1099511627776 < 1099511627776 := by
    rcases Int.lt_or_le v 0 with h | h
    · have := Int.neg_tmod (-v) 1099511627776
      rw [Int.neg_neg] at this
      have h2 := Int.tmod_eq_emod_of_nonneg (a := -v) (b := 1099511627776) (by omega)
      omega
    · rw [Int.tmod_eq_emod_of_nonneg h]; omega
  have h2 : wrap64 (v.tmod 1099511627776) = v.tmod 1099511627776 := by unfold wrap64; omega
  exact ⟨by rw [h2]; exact h1, h2⟩
theorem wf_i32 {a : Int} (h : (Lit.int .i32 a).wf = true) : -2147483648 ≤ a ∧ a ≤ 2147483647 := by simp [Lit.wf, IntKind.min, IntKind.max, IntKind.signed, IntKind.bits] at h; omega
/-- Where a row lies that was appended to. -/
def Lz (A A' : Option Addr) (n : Nat) : Prop := ∀ d : Nat, A'.map (·.block) = some d → A.map (·.block) = some d ∨ n ≤ d
/-- append(s, x) of one, and where the row lies then. -/
theorem wpList_app1z {P : Program} (w0 : World) {ops : Array Oper} {rest : List Oper} {o : Oper} {a : Act} {Q : Exit → Act → World → Prop} (hgd : o.guard = none) (s x : Operand) (t t' : TypeId)
    (ho : o.op = .call { callee := .builtin .append, args := #[s, x], argTypes := #[t, t] })
    (base : Nat) (e : TypeId) (z : Value) (bytes : Nat) (ht : P.underlying t = some (.slice e)) (hi : (P.info? e).map (fun i => (i.zero, i.size, i.bytes)) = some (some z, 1, bytes)) (hz : z.cells.size = 1)
    (A : Option Addr) (n c : Nat) (xs : List Value) (hs : a.eval s = .slice A n c) (hown : w0.ownsRow base e 1 (.slice A n c) n xs) (u : Value) (hu : u.oneCell' = true)
    (hx : a.eval x = .slice (some ⟨w0.heap.size, 0, none⟩) 1 1) (hn : (n + 1) * bytes ≤ 140737488355328) (hn2 : n + 1 ≤ maxLen) (hbase : base ≤ w0.heap.size)
    (h : ∀ A' c' w', n + 1 ≤ c' → w'.ownsRow base e 1 (.slice A' (n + 1) c') (n + 1) (xs ++ [u]) → w0.grownBy w' (A.map (·.block)) → Below base w0 w' → Lz A A' w0.heap.size → wpList P ops Q rest (a.put o.dst (.slice A' (n + 1) c')) w') :
    wpList P ops Q (o :: rest) a (w0.alloc (.cells #[u] t')) := by
  obtain ⟨i, hi, hz0, hz1, hz2⟩ := info_parts hi
  refine wpList_append_own_at _ hgd s x t ho base e i z 1 bytes ht hi hz0 hz1 hz2 hz (by omega) _ n xs hs (hown.alloc _) _ 1 1 [u] hx rfl (cell_one_new w0 u t') (by simpa using hu) hn2 hn (by simp; omega) ?_
  intro v' w' hown' hgr _ hL
  obtain ⟨A', c', rfl, hc'⟩ := own_form hown'
  have h2 : (Value.slice A n c).ownBlock = A.map (·.block) := by cases A <;> rfl
  have h3 : (Value.slice A' (n + 1) c').ownBlock = A'.map (·.block) := by cases A' <;> rfl
  have hg2 : w0.grownBy w' (A.map (·.block)) := by
    have h1 := World.grownBy_alloc w0 (.cells #[u] t') (A.map (·.block))
    rw [h2] at hgr
    exact h1.trans hgr
  refine h A' c' w' hc' hown' hg2 (grown_below hg2 hbase fun k hk => (hown.lt k (by rw [h2]; exact hk)).1) fun d hd => ?_
  rw [h2, h3] at hL
  rcases hL with hL | hL
  · exact .inl (by rw [← hL]; exact hd)
  · rw [hL, World.size_alloc] at hd
    injection hd with hd
    exact .inr (by omega)
set_option maxRecDepth 100000 in
set_option maxHeartbeats 16000000 in
theorem walkBitsMoves (A : Option Addr) (n c : Nat) (z : List Int) (K : Int) (w : World) (w0 : IsRow .i64 w A n c z) (w1 : (Lit.int .i32 K).wf = true) :
    Calls Try.prog 5 #[.slice A n c, .int .i32 K] w fun e w' => e = .returned (.bool true) ∧ Below w.heap.size w w' := by
  obtain ⟨L, hL, hc, hi⟩ := argII w0
  have hz : L.length = n := by have := hL.1; rwa [ics_len] at this
  subst hz
  have HL := hid hL
  have HC := hid hc
  have HI := hid hi
  have HK : Hid (-2147483648 ≤ K ∧ K ≤ 2147483647) := hid (wf_i32 w1)
  clear w0 w1 hL hc hi
  go_enter Try.func5, Try.ntmps5
  go_wp2_with fail
  refine (btfirst_c w).mono ?_
  rintro e w1 ⟨rfl, hb1⟩
  have HB1 := hid hb1
  clear hb1
  rcases Nat.eq_zero_or_pos L.length with h0 | h0
  · have e0 : ((L.length : Int) == 0) = true := by rw [h0]; rfl
    have e1 : (L.length : Int) = 0 := by omega
    clear h0
    go_wp2
    go_ret
    exact ⟨rfl, HB1.out⟩
  have e0 : ((L.length : Int) == 0) = false := beq_eq_false_iff_ne.2 (by omega)
  have e00 : ¬ (L.length : Int) = 0 := by omega
  have H0 := hid h0
  clear h0
  by_cases hbig : 250 < L.length
  · have e1 : decide ((250 : Int) < (L.length : Int)) = true := decide_eq_true (by omega)
    have e2 : decide (250 < L.length) = true := decide_eq_true hbig
    clear hbig
    go_wp2
    go_ret
    exact ⟨rfl, HB1.out⟩
  have e1 : decide ((250 : Int) < (L.length : Int)) = false := decide_eq_false (by omega)
  have e2 : decide (250 < L.length) = false := decide_eq_false hbig
  have HN : Hid (L.length ≤ 250) := hid (by omega)
  clear hbig
  go_wp2_with fail
  clear e0 e00 e1 e2
  obtain ⟨n, hn⟩ : ∃ n, L.length = n := ⟨_, rfl⟩
  rw [hn] at HN H0 HC HL ⊢
  have HLL := hid hn
  clear hn
  go_loopg [5, 6, 7, 26] n (fun kk av bv mv iv wr => ∃ (j : Nat) (A1 A2 : Option Addr) (d1 d2 : Nat) (xs : List Int), av = .slice A1 j d1 ∧ bv = .slice A2 j d2 ∧ mv = .int .i64 (mnL xs) ∧ iv = .int .i64 (j : Int) ∧ Hid (kk = n - j) ∧ Hid (j ≤ n) ∧ Hid (xs.length = j ∧ ∀ x ∈ xs, near x) ∧ Hid (wr.ownsRow w.heap.size 3 1 (.slice A1 j d1) j (ics xs)) ∧ Hid (wr.ownsRow w.heap.size 3 1 (.slice A2 j d2) j (ics (mvL K xs))) ∧ Hid (∀ t, A1.map (·.block) = some t → A2.map (·.block) ≠ some t) ∧ Hid (Below w.heap.size w wr))
  case atStart => exact ⟨0, none, none, 0, 0, [], rfl, rfl, rfl, rfl, hid rfl, hid (Nat.zero_le _), hid ⟨rfl, fun x hx => by cases hx⟩, hid (own_nilrow _ _ _ _), hid (own_nilrow _ _ _ _), hid (fun t h => by cases h), HB1⟩
  case round =>
  obtain ⟨j, A1, A2, d1, d2, xs, rfl, rfl, rfl, rfl, hgk, hj, hX, hO1, hO2, hAp, hB⟩ := hrel
  rename World => wr
  rcases Nat.lt_or_ge j n with hlt | hge
  · have hjl : j < L.length := by rw [HLL.out]; exact hlt
    have j1 : (0 : Int) ≤ (j : Int) := by omega
    have j2 : (j : Int) < (n : Int) := by omega
    have j3 : decide ((j : Int) < (n : Int)) = true := by simpa using hlt
    have wj : wrap64 ((j : Int) + 1) = ((j + 1 : Nat) : Int) := by have := HN.out; exact w64_nat (m := j + 1) (by omega)
    obtain ⟨g, off, rfl, _, _, hcell⟩ := lst_i (HL.out.below hB.out (Nat.le_refl _)) hjl
    have HJ := hid hlt
    generalize L[j] = v at *
    obtain ⟨hnr, hwr⟩ := near_mod v
    rw [hwr] at hnr
    obtain ⟨x, hx⟩ : ∃ x, v.tmod 1099511627776 = x := ⟨_, rfl⟩
    rw [hx] at hnr hwr
    have HNR := hid hnr
    have wx : wrap64 (x + K) = x + K := by have := HK.out; unfold near at hnr; unfold wrap64; omega
    have wK : IntKind.i64.wrap K = K := IntWalk.i64_in _ (by have := HK.out; omega)
    have HCAP : Hid (j + 1 ≤ 1000) := hid (by have := HN.out; omega)
    clear hlt hjl hnr
    go_wp2_with (at_builtin; refine wpList_app1z _ rfl _ _ 22 _ rfl w.heap.size 3 (.int .i64 0) 8 Try.underlying22 Try.infoI_ rfl _ _ _ _ rfl hO1.out _ rfl rfl (by have := HCAP.out; omega) (by have := HCAP.out; unfold maxLen; omega) hB.out.size ?_)
    intro A3 c3 w3 hc3 ho3 hg3 hb3 hl3
    have HO3 : Hid (w3.ownsRow w.heap.size 3 1 (.slice A3 (j + 1) c3) (j + 1) (ics (xs ++ [x]))) := hid (by rw [ics_app]; exact ho3)
    have HP2 := hid (own_keep hO2.out fun t ht => hg3.block t (own_lt hO2.out t ht) fun e => hAp.out t e.symm ht)
    have HA3 : Hid (∀ t, A3.map (·.block) = some t → A2.map (·.block) ≠ some t) := hid (fun t ht e => by
      rcases hl3 t ht with h | h
      · exact hAp.out t h e
      · have := own_lt hO2.out t e; omega)
    have HB3 := hid (hB.out.trans hb3)
    clear hc3 ho3 hg3 hb3 hl3 hO1 hO2 hAp hB
    go_wp2_with (at_builtin; refine wpList_app1z _ rfl _ _ 22 _ rfl w.heap.size 3 (.int .i64 0) 8 Try.underlying22 Try.infoI_ rfl _ _ _ _ rfl HP2.out _ rfl rfl (by have := HCAP.out; omega) (by have := HCAP.out; unfold maxLen; omega) HB3.out.size ?_)
    intro A4 c4 w4 hc4 ho4 hg4 hb4 hl4
    have HO4 : Hid (w4.ownsRow w.heap.size 3 1 (.slice A4 (j + 1) c4) (j + 1) (ics (mvL K (xs ++ [x])))) := hid (by rw [mvL_snoc, ics_app]; exact ho4)
    have HP3 := hid (own_keep HO3.out fun t ht => hg4.block t (own_lt HO3.out t ht) fun e => HA3.out t ht e.symm)
    have HA4 : Hid (∀ t, A3.map (·.block) = some t → A4.map (·.block) ≠ some t) := hid (fun t ht e => by
      rcases hl4 t e with h | h
      · exact HA3.out t ht h
      · have := own_lt HO3.out t ht; omega)
    have HB4 := hid (HB3.out.trans hb4)
    have HX4 : Hid ((xs ++ [x]).length = j + 1 ∧ ∀ y ∈ xs ++ [x], near y) := hid ⟨by rw [List.length_append, hX.out.1]; rfl, fun y hy => by
      rcases List.mem_append.1 hy with h | h
      · exact hX.out.2 y h
      · rw [List.mem_singleton.1 h]; exact HNR.out⟩
    clear hc4 ho4 hg4 hb4 hl4 HO3 HP2 HA3 HB3 wx wK
    rcases Nat.eq_zero_or_pos j with hj0 | hj0
    · subst hj0
      have HE : Hid (mnL (xs ++ [x]) = x) := hid (by rw [List.eq_nil_of_length_eq_zero hX.out.1]; rfl)
      clear hX
      go_wp2_with fail
      go_roundg (n - (0 + 1))
      case measure => exact meas_j hgk.out HJ.out
      case rel => exact ⟨0 + 1, A3, A4, c3, c4, xs ++ [x], rfl, rfl, by rw [HE.out], by first | rfl | rw [wj], hid rfl, hid HJ.out, HX4, HP3, HO4, HA4, HB4⟩
    · have z0 : ((j : Int) == 0) = false := beq_eq_false_iff_ne.2 (by omega)
      have z1 : ¬ (j : Int) = 0 := by omega
      have HMN : Hid (mnL (xs ++ [x]) = min (mnL xs) x) := hid (mnL_snoc (fun e => by have := hX.out.1; rw [e] at this; simp at this; omega) x)
      obtain ⟨mm, hmm⟩ : ∃ mm, mnL xs = mm := ⟨_, rfl⟩
      rw [hmm] at HMN ⊢
      rcases Int.lt_or_le x mm with hlt | hge
      · have y0 : decide (x < mm) = true := decide_eq_true hlt
        have HE : Hid (mnL (xs ++ [x]) = x) := hid (by rw [HMN.out]; omega)
        clear hX hmm HMN
        go_wp2_with fail
        go_roundg (n - (j + 1))
        case measure => exact meas_j hgk.out HJ.out
        case rel => exact ⟨j + 1, A3, A4, c3, c4, xs ++ [x], rfl, rfl, by rw [HE.out], by first | rfl | rw [wj], hid rfl, hid HJ.out, HX4, HP3, HO4, HA4, HB4⟩
      · have y0 : decide (x < mm) = false := decide_eq_false (by omega)
        have y1 : ¬ x < mm := by omega
        have HE : Hid (mnL (xs ++ [x]) = mm) := hid (by rw [HMN.out]; omega)
        clear hX hmm HMN hge
        go_wp2_with fail
        go_roundg (n - (j + 1))
        case measure => exact meas_j hgk.out HJ.out
        case rel => exact ⟨j + 1, A3, A4, c3, c4, xs ++ [x], rfl, rfl, by rw [HE.out], by first | rfl | rw [wj], hid rfl, hid HJ.out, HX4, HP3, HO4, HA4, HB4⟩
  · have hjn : n = j := by have := hj.out; omega
    subst hjn
    have j2 : ¬ (n : Int) < (n : Int) := by omega
    have HNE : Hid (xs ≠ []) := hid (fun e => by have h1 := hX.out.1; have h2 := H0.out; rw [e] at h1; simp at h1; omega)
    obtain ⟨m, hm⟩ : ∃ m, mnL xs = m := ⟨_, rfl⟩
    have hmn : near m := by rw [← hm]; exact hX.out.2 _ (mnL_in HNE.out)
    have HME := hid hm
    have HM2 : Hid (mnL (mvL K xs) = m + K) := hid (by rw [(mv_ends K HNE.out).1, hm])
    have HMN := hid hmn
    have HI1 : Hid (i64s xs) := hid (fun y hy => by have := hX.out.2 y hy; unfold near at this; unfold i64r; omega)
    have HI2 : Hid (i64s (mvL K xs)) := hid (fun y hy => by
      obtain ⟨z, hz, rfl⟩ := List.mem_map.1 hy
      have := hX.out.2 z hz
      have := HK.out
      unfold near at *
      unfold i64r
      omega)
    rw [hm]
    clear hge hj hgk hm hmn
    go_wp2_with fail
    refine (btput_c ((Lst.own hO1.out).wide (Nat.zero_le _) (Nat.le_refl _)) (own_nc hO1.out) (by have := HN.out; omega) HI1.out).mono ?_
    rintro e w3 ⟨A3, c3, rfl, hc3, ho3, hb3⟩
    have HP2 := hid (own_bel hO2.out hb3)
    have HX3 := hid ho3
    have HB3 := hid (hB.out.trans (hb3.mono hB.out.size))
    have HC3 := hid hc3
    clear hc3 ho3 hb3 hO1 hO2 hB hAp
    go_wp2_with fail
    refine (btput_c ((Lst.own HP2.out).wide (Nat.zero_le _) (Nat.le_refl _)) (own_nc HP2.out) (by have := HN.out; omega) HI2.out).mono ?_
    rintro e w4 ⟨A4, c4, rfl, hc4, ho4, hb4⟩
    have HX4 := hid (own_bel HX3.out hb4)
    have HY4 := hid ho4
    have HB4 := hid (HB3.out.trans (hb4.mono HB3.out.size))
    have HC4 := hid hc4
    clear hc4 ho4 hb4 HX3 HP2 HB3
    have wm : wrap64 (m + K) = m + K := by have h2 := HMN.out; have := HK.out; unfold near at h2; unfold wrap64; omega
    have wK : IntKind.i64.wrap K = K := IntWalk.i64_in _ (by have := HK.out; omega)
    go_wp2_with fail
    refine (number_c none 0 0 m [] w4 (Bts.nil _ _ _ _) (by decide) (by have := HMN.out; unfold near at this; omega) (by have := HMN.out; unfold near at this; omega)).mono ?_
    rw [List.nil_append]
    rintro e w5 ⟨A5, c5, rfl, -, -, hb5⟩
    have HB5 := hid (HB4.out.trans (hb5.mono HB4.out.size))
    have HX5 := hid (own_bel HX4.out hb5)
    have HY5 := hid (own_bel HY4.out hb5)
    clear hb5 HX4 HY4 HB4
    go_wp2_with fail
    refine (number_c none 0 0 (m + K) [] w5 (Bts.nil _ _ _ _) (by decide) (by have h2 := HMN.out; have := HK.out; unfold near at h2; omega) (by have h2 := HMN.out; have := HK.out; unfold near at h2; omega)).mono ?_
    rw [List.nil_append]
    rintro e w6 ⟨A6, c6, rfl, -, -, hb6⟩
    have HB6 := hid (HB5.out.trans (hb6.mono HB5.out.size))
    have HX6' := own_bel HX5.out hb6
    have HY6' := own_bel HY5.out hb6
    clear hb6 HX5 HY5 HB5 wm wK
    have hX := btP_tl HNE.out
    have hY := btP_tl (l := mvL K xs) (fun e => HNE.out (List.map_eq_nil_iff.1 e))
    rw [HME.out] at hX
    rw [HM2.out, tl_mv K HNE.out] at hY
    have hZ : 0 < (tlB xs).length := Nat.zero_lt_succ _
    generalize tlB xs = Z at *
    generalize btP xs = X at *
    generalize btP (mvL K xs) = Y at *
    obtain ⟨p, hp⟩ : ∃ p, (nat (fold m)).length = p := ⟨_, rfl⟩
    obtain ⟨r, hr⟩ : ∃ r, (nat (fold (m + K))).length = r := ⟨_, rfl⟩
    rw [hp, hr]
    have HZX : Hid (X.drop p = Z) := hid (by rw [hX, ← hp]; exact List.drop_left)
    have HZY : Hid (Y.drop r = Z) := hid (by rw [hY, ← hr]; exact List.drop_left)
    have hXl : X.length = p + Z.length := by rw [hX, List.length_append, hp]
    have hYl : Y.length = r + Z.length := by rw [hY, List.length_append, hr]
    obtain ⟨g1, hA3, _, _, _⟩ := own_some HX6' (Nat.lt_of_lt_of_le hZ (by omega))
    obtain ⟨g2, hA4, _, _, _⟩ := own_some HY6' (Nat.lt_of_lt_of_le hZ (by omega))
    subst hA3 hA4
    have HX6 := hid (Bts.own HX6')
    have HY6 := hid (Bts.own HY6')
    have a1 : decide ((p : Int) < (X.length : Int)) = true := decide_eq_true (by omega)
    have a2 : decide ((r : Int) < (Y.length : Int)) = true := decide_eq_true (by omega)
    have a3 : decide (p < X.length) = true := decide_eq_true (by omega)
    have a4 : decide (r < Y.length) = true := decide_eq_true (by omega)
    have b1 : (0 : Int) ≤ (p : Int) := by omega
    have b2 : (p : Int) ≤ (X.length : Int) := by omega
    have b3 : (0 : Int) ≤ (r : Int) := by omega
    have b4 : (r : Int) ≤ (Y.length : Int) := by omega
    have b5 : p ≤ X.length := by omega
    have b6 : r ≤ Y.length := by omega
    have n1 : ¬ c3 = p := by have := HC3.out; omega
    have n2 : ¬ c4 = r := by have := HC4.out; omega
    have s1 := str_list Z
    clear hX hY hp hr hXl hYl hZ HX6' HY6' HC3 HC4
    go_wp2_with fail
    refine wp_region_held_drew (S := fun wx => Below w6.heap.size w6 wx) (by kernel_rfl) (Below.refl _ _).drew (fun HS => ?_)
    refine qT 0 ?vq1_0 ?yq1_0 HS ?rq1_0
    case yq1_0 =>
      refine qI fun wS hSw => ?_
      go_simp
      try with_reducible rfl
    try simp only [Act.put, zA, zB, zC]
    refine qT 1 ?vq2_1 ?yq2_1 HS ?rq2_1
    case yq2_1 =>
      refine qI fun wS hSw => ?_
      go_simp
      try with_reducible rfl
    try simp only [Act.put, zA, zB, zC]
    refine qT 2 ?vq3_2 ?yq3_2 HS ?rq3_2
    case yq3_2 =>
      refine qI fun wS hSw => ?_
      go_simp
      try with_reducible rfl
    try simp only [Act.put, zA, zB, zC]
    refine qT 3 ?vq4_3 ?yq4_3 HS ?rq4_3
    case yq4_3 =>
      refine qI fun wS hSw => ?_
      go_simp
      try with_reducible rfl
    try simp only [Act.put, zA, zB, zC]
    refine qT 4 ?vq5_4 ?yq5_4 HS ?rq5_4
    case yq5_4 =>
      refine qI fun wS hSw => ?_
      go_simp
      try with_reducible rfl
    try simp only [Act.put, zA, zB, zC]
    refine qT 5 ?vq6_5 ?yq6_5 HS ?rq6_5
    case yq6_5 =>
      refine qI fun wS hSw => ?_
      go_simp
      try with_reducible rfl
    try simp only [Act.put, zA, zB, zC]
    refine qT 6 ?vq7_6 ?yq7_6 HS ?rq7_6
    case yq7_6 =>
      refine qI fun wS hSw => ?_
      go_simp
      try with_reducible rfl
    try simp only [Act.put, zA, zB, zC]
    refine qT 7 ?vq8_7 ?yq8_7 HS ?rq8_7
    case yq8_7 =>
      refine qI fun wS hSw => ?_
      go_simp
      try with_reducible rfl
    try simp only [Act.put, zA, zB, zC]
    refine qT 8 ?vq9_8 ?yq9_8 HS ?rq9_8
    case yq9_8 =>
      refine qI fun wS hSw => ?_
      go_simp
      try with_reducible rfl
    try simp only [Act.put, zA, zB, zC]
    refine qT 9 ?vq10_9 ?yq10_9 HS ?rq10_9
    case yq10_9 =>
      refine qI fun wS hSw => ?_
      go_simp
      try with_reducible rfl
    try simp only [Act.put, zA, zB, zC]
    refine qT 10 ?vq11_10 ?yq11_10 HS ?rq11_10
    case yq11_10 =>
      refine qI fun wS hSw => ?_
      go_simp
      try with_reducible rfl
    try simp only [Act.put, zA, zB, zC]
    refine qT 11 ?vq12_11 ?yq12_11 HS ?rq12_11
    case yq12_11 =>
      refine qI fun wS hSw => ?_
      go_simp
      try with_reducible rfl
    try simp only [Act.put, zA, zB, zC]
    refine qT 12 ?vq13_12 ?yq13_12 HS ?rq13_12
    case yq13_12 =>
      refine qI fun wS hSw => ?_
      go_simp
      try with_reducible rfl
    try simp only [Act.put, zA, zB, zC]
    refine qT 13 ?vq14_13 ?yq14_13 HS ?rq14_13
    case yq14_13 =>
      refine qI fun wS hSw => ?_
      go_simp
      try with_reducible rfl
    try simp only [Act.put, zA, zB, zC]
    refine qT 14 ?vq15_14 ?yq15_14 HS ?rq15_14
    case yq15_14 =>
      refine qI fun wS hSw => ?_
      have hcv := bt_str (c := c3 - p) ((HX6.out.drop p).below hSw (Nat.le_refl _))
      rw [HZX.out, Nat.zero_add] at hcv
      go_simp
      try with_reducible rfl
    try simp only [Act.put, zA, zB, zC]
    refine qT 15 ?vq16_15 ?yq16_15 HS ?rq16_15
    case yq16_15 =>
      refine qI fun wS hSw => ?_
      go_simp
      try with_reducible rfl
    try simp only [Act.put, zA, zB, zC]
    refine qT 16 ?vq17_16 ?yq17_16 HS ?rq17_16
    case yq17_16 =>
      refine qI fun wS hSw => ?_
      go_simp
      try with_reducible rfl
    try simp only [Act.put, zA, zB, zC]
    refine qT 17 ?vq18_17 ?yq18_17 HS ?rq18_17
    case yq18_17 =>
      refine qI fun wS hSw => ?_
      go_simp
      try with_reducible rfl
    try simp only [Act.put, zA, zB, zC]
    refine qT 18 ?vq19_18 ?yq19_18 HS ?rq19_18
    case yq19_18 =>
      refine qI fun wS hSw => ?_
      have hcv := bt_str (c := c4 - r) ((HY6.out.drop r).below hSw (Nat.le_refl _))
      rw [HZY.out, Nat.zero_add] at hcv
      go_simp
      try with_reducible rfl
    try simp only [Act.put, zA, zB, zC]
    refine qT 19 ?vq20_19 ?yq20_19 HS ?rq20_19
    case yq20_19 =>
      refine qI fun wS hSw => ?_
      go_simp
      try with_reducible rfl
    try simp only [Act.put, zA, zB, zC]
    refine qT 20 ?vq21_20 ?yq21_20 HS ?rq21_20
    case yq21_20 =>
      refine qI fun wS hSw => ?_
      go_simp
      try with_reducible rfl
    try simp only [Act.put, zA, zB, zC]
    refine qT 21 ?vq22_21 ?yq22_21 HS ?rq22_21
    case yq22_21 =>
      refine qI fun wS hSw => ?_
      go_simp
      try with_reducible rfl
    try simp only [Act.put, zA, zB, zC]
    refine wpAnyH_done (by kernel_rfl) ?_ _
    go_wp2
    go_ret
    exact ⟨rfl, HB6.out.drew⟩
end Go.Proofs.Ytejmllpffocneaa
