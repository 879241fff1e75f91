/- What the document's own number returns: the int whose decimal text it is. -/
import Derived.Test.YtomgpkklbhdgiaaGreatDoorVlPrR
import Derived.Test.YtomgpkklbhdgiaaGreatDoorVlAtoi
namespace Go.Proofs.YtomgpkklbhdgiaaGreatDoor
open Go.RowKit

def NumP (l : List UInt8) (w : World) (e : Ending) (w' : World) : Prop :=
  ∃ (n : Int) (ok : Bool), e = .returned (.tuple #[.int .i64 n, .bool ok]) ∧ Below w.heap.size w w' ∧ -9223372036854775808 ≤ n ∧ n ≤ 9223372036854775807 ∧ (ok = true → l = digI n) ∧ ∀ m : Int, -9223372036854775808 ≤ m → m ≤ 9223372036854775807 → l = digI m → ok = true ∧ n = m
theorem num_no {l : List UInt8} {w w' : World} (hb : Below w.heap.size w w') (h : ∀ m : Int, -9223372036854775808 ≤ m → m ≤ 9223372036854775807 → l ≠ digI m) : NumP l w (.returned (.tuple #[.int .i64 0, .bool false])) w' :=
  ⟨0, false, rfl, hb, by decide, by decide, (fun h => by cases h), fun m h1 h2 e => absurd e (h m h1 h2)⟩
theorem num_len {l : List UInt8} (h : decR l = [] ∨ 19 < (decR l).length) : ∀ m : Int, -9223372036854775808 ≤ m → m ≤ 9223372036854775807 → l ≠ digI m := by
  rintro m h1 h2 rfl
  rw [(decR_digI m).1] at h
  have hl := dig_len 18 m.natAbs (by omega)
  rcases h with h | h
  · exact dig_ne _ h
  · omega
theorem num_bad {l : List UInt8} {c : UInt8} (hc : c ∈ decR l) (h : c.toNat < 48 ∨ 57 < c.toNat) : ∀ m : Int, -9223372036854775808 ≤ m → m ≤ 9223372036854775807 → l ≠ digI m := by
  rintro m _ _ rfl
  rw [(decR_digI m).1] at hc
  have := dig_all m.natAbs m.natAbs (Nat.le_refl _) c hc
  omega
theorem val_ge : ∀ (l : List UInt8) (a : Nat), a ≤ l.foldl (fun a c => 10 * a + (c.toNat - 48)) a
  | [], a => Nat.le_refl _
  | c :: r, a => by
    have := val_ge r (10 * a + (c.toNat - 48))
    rw [List.foldl_cons]
    omega
theorem val_take_le (l : List UInt8) (i : Nat) : val (l.take i) ≤ val l := by
  have h : val l = (l.drop i).foldl (fun a c => 10 * a + (c.toNat - 48)) (val (l.take i)) := by
    unfold val
    rw [← List.foldl_append, List.take_append_drop]
  rw [h]
  exact val_ge _ _
theorem num_over {l : List UInt8} {i : Nat} (h : 9223372036854775808 < val ((decR l).take i)) : ∀ m : Int, -9223372036854775808 ≤ m → m ≤ 9223372036854775807 → l ≠ digI m := by
  rintro m h1 h2 rfl
  have h3 := val_take_le (decR (digI m)) i
  rw [(decR_digI m).1] at h h3
  rw [val_dig m.natAbs m.natAbs (Nat.le_refl _)] at h3
  omega
theorem num_end {l : List UInt8} {n : Int} (h1 : -9223372036854775808 ≤ n) (h2 : n ≤ 9223372036854775807) (h : ∀ m : Int, -9223372036854775808 ≤ m → m ≤ 9223372036854775807 → decN l = m → n = m) {w w' : World} (hb : Below w.heap.size w w') {ok : Bool} (ho : ok = ((str (digI n)).toList == (str l).toList)) : NumP l w (.returned (.tuple #[.int .i64 n, .bool ok])) w' := by
  rw [str_list, str_list] at ho
  refine ⟨n, ok, rfl, hb, h1, h2, fun hk => ?_, fun m m1 m2 e => ?_⟩
  · rw [hk] at ho
    have := ho.symm
    simp at this
    exact this.symm
  · have hn := h m m1 m2 (by rw [e]; exact (decR_digI m).2)
    refine ⟨?_, hn⟩
    rw [ho, hn, e]
    simp
theorem valt {r : List UInt8} {i : Nat} {c : UInt8} (h : r[i]? = some c) : val (r.take (i + 1)) = 10 * val (r.take i) + (c.toNat - 48) := by
  obtain ⟨h1, h2⟩ := List.getElem?_eq_some_iff.1 h
  rw [List.take_succ_eq_append_getElem h1, val_snoc, h2]
theorem num_step {z : Int} {n i y L : Nat} (hz : z = -(n : Int)) (hn : n < 10 ^ i) (hi : i < L) (hL : L ≤ 19) (hy : y ≤ 9) :
    (10 * n + y ≤ 9223372036854775808 → wrap64 (wrap64 (10 * z) - (y : Int)) = -((10 * n + y : Nat) : Int) ∧ decide (0 < wrap64 (wrap64 (10 * z) - (y : Int))) = false) ∧ (9223372036854775808 < 10 * n + y → decide (0 < wrap64 (wrap64 (10 * z) - (y : Int))) = true) ∧ 10 * n + y < 10 ^ (i + 1) := by
  have hp : (10 : Nat) ^ i ≤ 10 ^ 18 := Nat.pow_le_pow_right (by decide) (by omega)
  have e18 : (10 : Nat) ^ 18 = 1000000000000000000 := by decide
  have hn2 : n < 1000000000000000000 := by omega
  refine ⟨fun h => ?_, fun h => ?_, by rw [Nat.pow_succ]; omega⟩
  · have e : wrap64 (wrap64 (10 * z) - (y : Int)) = -((10 * n + y : Nat) : Int) := by unfold wrap64; omega
    exact ⟨e, by rw [e]; simp; omega⟩
  · have e : 0 < wrap64 (wrap64 (10 * z) - (y : Int)) := by unfold wrap64; omega
    simpa using e
theorem num_dig {x : UInt8} (h : 48 ≤ x.toNat ∧ x.toNat ≤ 57) : ∃ y : Nat, y = x.toNat - 48 ∧ y ≤ 9 ∧ decide ((x.toNat : Int) < 48) = false ∧ decide ((57 : Int) < (x.toNat : Int)) = false ∧ ((x.toNat : Int) - 48) % 256 = (y : Int) ∧ (x.toNat : Int) - 48 = (y : Int) ∧ IntKind.u8.wrap ((x.toNat : Int) - 48) = (y : Int) ∧ wrap64 (y : Int) = (y : Int) := by
  have := x.toNat_lt
  refine ⟨x.toNat - 48, rfl, by omega, by simp; omega, by simp; omega, by omega, by omega, by rw [IntKind.wrap_u8]; omega, by unfold wrap64; omega⟩
theorem num_i {i L : Nat} (h : i < L) (hL : L ≤ 19) : wrap64 ((i : Int) + 1) = (i : Int) + 1 ∧ (i : Int) + 1 = ((i + 1 : Nat) : Int) ∧ L - (intOf (.int .i64 ((i + 1 : Nat) : Int))).toNat < L - (intOf (.int .i64 (i : Int))).toNat := by
  refine ⟨by unfold wrap64; omega, by omega, ?_⟩
  simp only [intOf]
  omega
theorem i64_wrap64 (x : Int) : IntKind.i64.wrap x = wrap64 x := by rw [IntKind.wrap_i64]; unfold wrap64; first | rfl | omega
theorem num_neg {z m : Int} (hz : z ≤ 0) (h : -9223372036854775808 ≤ z) : -9223372036854775808 ≤ wrap64 (-z) ∧ wrap64 (-z) ≤ 9223372036854775807 ∧ (-z = m → m ≤ 9223372036854775807 → wrap64 (-z) = m) := by
  refine ⟨by unfold wrap64; omega, by unfold wrap64; omega, fun h1 h2 => by unfold wrap64; omega⟩

set_option maxRecDepth 20000 in
set_option maxHeartbeats 4000000 in
theorem numberN_c (l : List UInt8) (hh : l.head? = some 45) (w : World) :
    Calls Tryz.prog 57 #[.string (str l)] w (NumP l w) := by
  obtain ⟨r, hr⟩ : ∃ r, r = decR l := ⟨_, rfl⟩
  have hrt : r = l.tail := by rw [hr]; unfold decR; rw [if_pos hh]
  have HD : Hid (decN l = -(val r : Int)) := hid (by unfold decN; rw [if_pos hh, hrt])
  obtain ⟨l0, rfl⟩ : ∃ l0, l = 45 :: l0 := by cases l with
    | nil => cases hh
    | cons c q => simp at hh; exact ⟨q, by rw [hh]⟩
  have hsl : ∀ wx, (Instr.slice 9 (.string (str (45 :: l0))) (some (.int .i64 1)) none none).run Tryz.prog wx = .ok (.string (str r)) wx := fun wx => by rw [hrt]; exact vstr_from1 (45 :: l0) (by simp) wx
  have hi0 : ∀ wx, (Instr.index 9 (.string (str (45 :: l0))) (.int .i64 0)).run Tryz.prog wx = .ok (.int .u8 45) wx := fun wx => vstr_at (45 :: l0) 0 45 rfl .i64 wx
  have hne : ((str (45 :: l0)).toList == []) = false := by rw [str_list]; rfl
  generalize hl : (45 :: l0 : List UInt8) = l at *
  clear hrt hh hl
  have hz : (str r).size = r.length := str_size r
  have hb1 : ((str r).toList == []) = decide (r = []) := by rw [str_list, Bool.eq_iff_iff]; simp
  have HR := hid hr
  clear hr
  by_cases h0 : r = []
  · have d0 : decide (r = []) = true := by simpa using h0
    have HN := hid (num_len (l := l) (.inl (by rw [← HR.out]; exact h0)))
    clear h0
    go_enter Tryz.func57, Tryz.ntmps57
    go_wp2
    go_ret2
    exact num_no (Below.refl _ _) HN.out
  have d0 : decide (r = []) = false := by simpa using h0
  by_cases h19 : 19 < r.length
  · have d1 : decide (19 < (r.length : Int)) = true := by simp; omega
    have d1' : decide (19 < r.length) = true := by simpa using h19
    have HN := hid (num_len (l := l) (.inr (by rw [← HR.out]; exact h19)))
    clear h0 h19
    go_enter Tryz.func57, Tryz.ntmps57
    go_wp2
    go_ret2
    exact num_no (Below.refl _ _) HN.out
  have d1 : decide (19 < (r.length : Int)) = false := by simp; omega
  have d1' : decide (19 < r.length) = false := by simpa using h19
  have HL : Hid (r.length ≤ 19) := hid (by omega)
  clear h0 h19
  go_enter Tryz.func57, Tryz.ntmps57
  go_wp2_with fail
  go_loop [6, 7] (fun nv iv => ∃ (n i : Nat) (z : Int), nv = .int .i64 z ∧ iv = .int .i64 (i : Int) ∧ Hid (z = -(n : Int) ∧ i ≤ r.length ∧ n = val (r.take i) ∧ n < 10 ^ i ∧ n ≤ 9223372036854775808)) (fun _ iv => r.length - (intOf iv).toNat)
  case atStart => exact ⟨0, 0, 0, rfl, rfl, hid ⟨rfl, Nat.zero_le _, rfl, by decide, by decide⟩⟩
  case round =>
    obtain ⟨n, i, z, rfl, rfl, hh⟩ := hrel
    by_cases hi : i < r.length
    · have di : decide (i < r.length) = true := by simpa using hi
      obtain ⟨x, hx⟩ : ∃ x, r[i]? = some x := ⟨_, List.getElem?_eq_getElem hi⟩
      have hgx := vstr_at r i x hx .i64
      by_cases hdig : 48 ≤ x.toNat ∧ x.toNat ≤ 57
      · obtain ⟨y, hy, hy9, e1, e2, e3, e4, e5, e6⟩ := num_dig hdig
        obtain ⟨s1, s2, s3⟩ := num_step hh.out.1 hh.out.2.2.2.1 hi HL.out hy9
        have hv := valt hx
        rw [← hh.out.2.2.1, ← hy] at hv
        obtain ⟨x1, x2, x3⟩ := num_i hi HL.out
        have HX2 := hid x2
        have HX3 := hid x3
        have HI : Hid (i + 1 ≤ r.length) := hid hi
        have HV := hid hv
        by_cases hov : 10 * n + y ≤ 9223372036854775808
        · obtain ⟨t1, t2⟩ := s1 hov
          obtain ⟨T, hT⟩ : ∃ T, T = wrap64 (wrap64 (10 * z) - (y : Int)) := ⟨_, rfl⟩
          rw [← hT] at t1 t2
          have hT' := hT.symm
          have HN : Hid (T = -((10 * n + y : Nat) : Int) ∧ i + 1 ≤ r.length ∧ 10 * n + y = val (r.take (i + 1)) ∧ 10 * n + y < 10 ^ (i + 1) ∧ 10 * n + y ≤ 9223372036854775808) := hid ⟨t1, hi, HV.out.symm, s3, hov⟩
          clear hh hi hx hdig hy hy9 s1 s2 s3 hv x2 x3 hov t1 hT
          as_aux_lemma =>
          go_wp2
          try rw [x1]
          rw [HX2.out]
          exact ⟨⟨10 * n + y, i + 1, T, by first | rfl | rw [hT'], rfl, HN⟩, HX3.out⟩
        · have t2 := s2 (by omega)
          have HN := hid (num_over (l := l) (i := i + 1) (by rw [← HR.out, hv]; omega))
          clear hh hi hx hdig hy hy9 s1 s2 s3 hv x2 x3 hov
          as_aux_lemma =>
          go_wp2
          go_ret2
          exact num_no (Below.refl _ _) HN.out
      · have HN := hid (num_bad (l := l) (c := x) (by rw [← HR.out]; exact List.mem_of_getElem? hx) (by omega))
        by_cases hlo : x.toNat < 48
        · have e1 : decide ((x.toNat : Int) < 48) = true := by simp; omega
          clear hh hi hx hdig hlo
          as_aux_lemma =>
          go_wp2
          go_ret2
          exact num_no (Below.refl _ _) HN.out
        · have e1 : decide ((x.toNat : Int) < 48) = false := by simp; omega
          have e2 : decide ((57 : Int) < (x.toNat : Int)) = true := by simp; omega
          clear hh hi hx hdig hlo
          as_aux_lemma =>
          go_wp2
          go_ret2
          exact num_no (Below.refl _ _) HN.out
    · have di : decide (i < r.length) = false := by simpa using hi
      have hfull : r.take i = r := List.take_of_length_le (by omega)
      have hzv : z = -(val r : Int) := by rw [hh.out.1, hh.out.2.2.1, hfull]
      have hz0 : z ≤ 0 ∧ -9223372036854775808 ≤ z := by have := hh.out; omega
      have HE : Hid (∀ m : Int, -9223372036854775808 ≤ m → m ≤ 9223372036854775807 → decN l = m → z = m) := hid (fun m _ _ e => by rw [← e, HD.out, hzv])
      have HZ := hid hz0
      have CD := hid (fun wx => digs3_c z hz0.2 (by omega) wx)
      clear hh hi hfull hzv hz0
      go_wp2_with fail
      refine (CD.out _).mono ?_
      rintro e w2 ⟨rfl, hb2⟩
      go_wp2
      go_ret2
      exact num_end HZ.out.2 (Int.le_trans HZ.out.1 (by decide)) HE.out hb2 rfl

set_option maxRecDepth 20000 in
set_option maxHeartbeats 4000000 in
theorem numberP_c (l : List UInt8) (hh : l.head? ≠ some 45) (w : World) :
    Calls Tryz.prog 57 #[.string (str l)] w (NumP l w) := by
  obtain ⟨r, hr⟩ : ∃ r, r = decR l := ⟨_, rfl⟩
  have hrl : r = l := by rw [hr]; unfold decR; rw [if_neg hh]
  have HD : Hid (decN l = (val r : Int)) := hid (by unfold decN; rw [if_neg hh, hrl])
  have hfirst : (((str l).toList == []) = true) ∨ (((str l).toList == []) = false ∧ ∃ c : UInt8, (∀ wx, (Instr.index 9 (.string (str l)) (.int .i64 0)).run Tryz.prog wx = .ok (.int .u8 (c.toNat : Int)) wx) ∧ ((c.toNat : Int) == 45) = false) := by
    rw [str_list]
    cases l with
    | nil => exact .inl rfl
    | cons c q =>
      refine .inr ⟨rfl, c, fun wx => vstr_at (c :: q) 0 c rfl .i64 wx, ?_⟩
      simp at hh
      simp
      intro e
      exact hh (UInt8.toNat_inj.1 (by show c.toNat = 45; omega))
  have hsame : str l = str r := by rw [hrl]
  clear hrl hh
  have hz : (str r).size = r.length := str_size r
  have hb1 : ((str r).toList == []) = decide (r = []) := by rw [str_list, Bool.eq_iff_iff]; simp
  have HR := hid hr
  clear hr
  rcases hfirst with hf | ⟨hf, c0, hf1, hf2⟩
  · rw [hsame] at hf ⊢
    have h0 : r = [] := by rw [hb1] at hf; simpa using hf
    have d0 : decide (r = []) = true := by simpa using h0
    have HN := hid (num_len (l := l) (.inl (by rw [← HR.out]; exact h0)))
    clear h0
    go_enter Tryz.func57, Tryz.ntmps57
    go_wp2
    go_ret2
    exact num_no (Below.refl _ _) HN.out
  · rw [hsame] at hf hf1 ⊢
    by_cases h0 : r = []
    · have d0 : decide (r = []) = true := by simpa using h0
      have HN := hid (num_len (l := l) (.inl (by rw [← HR.out]; exact h0)))
      clear h0
      go_enter Tryz.func57, Tryz.ntmps57
      go_wp2
      go_ret2
      exact num_no (Below.refl _ _) HN.out
    have d0 : decide (r = []) = false := by simpa using h0
    by_cases h19 : 19 < r.length
    · have d1 : decide (19 < (r.length : Int)) = true := by simp; omega
      have d1' : decide (19 < r.length) = true := by simpa using h19
      have HN := hid (num_len (l := l) (.inr (by rw [← HR.out]; exact h19)))
      clear h0 h19
      go_enter Tryz.func57, Tryz.ntmps57
      go_wp2
      go_ret2
      exact num_no (Below.refl _ _) HN.out
    have d1 : decide (19 < (r.length : Int)) = false := by simp; omega
    have d1' : decide (19 < r.length) = false := by simpa using h19
    have HL : Hid (r.length ≤ 19) := hid (by omega)
    clear h0 h19
    go_enter Tryz.func57, Tryz.ntmps57
    go_wp2_with fail
    go_loop [6, 7] (fun nv iv => ∃ (n i : Nat) (z : Int), nv = .int .i64 z ∧ iv = .int .i64 (i : Int) ∧ Hid (z = -(n : Int) ∧ i ≤ r.length ∧ n = val (r.take i) ∧ n < 10 ^ i ∧ n ≤ 9223372036854775808)) (fun _ iv => r.length - (intOf iv).toNat)
    case atStart => exact ⟨0, 0, 0, rfl, rfl, hid ⟨rfl, Nat.zero_le _, rfl, by decide, by decide⟩⟩
    case round =>
      obtain ⟨n, i, z, rfl, rfl, hh⟩ := hrel
      by_cases hi : i < r.length
      · have di : decide (i < r.length) = true := by simpa using hi
        obtain ⟨x, hx⟩ : ∃ x, r[i]? = some x := ⟨_, List.getElem?_eq_getElem hi⟩
        have hgx := vstr_at r i x hx .i64
        by_cases hdig : 48 ≤ x.toNat ∧ x.toNat ≤ 57
        · obtain ⟨y, hy, hy9, e1, e2, e3, e4, e5, e6⟩ := num_dig hdig
          obtain ⟨s1, s2, s3⟩ := num_step hh.out.1 hh.out.2.2.2.1 hi HL.out hy9
          have hv := valt hx
          rw [← hh.out.2.2.1, ← hy] at hv
          obtain ⟨x1, x2, x3⟩ := num_i hi HL.out
          have HX2 := hid x2
          have HX3 := hid x3
          have HI : Hid (i + 1 ≤ r.length) := hid hi
          have HV := hid hv
          by_cases hov : 10 * n + y ≤ 9223372036854775808
          · obtain ⟨t1, t2⟩ := s1 hov
            obtain ⟨T, hT⟩ : ∃ T, T = wrap64 (wrap64 (10 * z) - (y : Int)) := ⟨_, rfl⟩
            rw [← hT] at t1 t2
            have hT' := hT.symm
            have HN : Hid (T = -((10 * n + y : Nat) : Int) ∧ i + 1 ≤ r.length ∧ 10 * n + y = val (r.take (i + 1)) ∧ 10 * n + y < 10 ^ (i + 1) ∧ 10 * n + y ≤ 9223372036854775808) := hid ⟨t1, hi, HV.out.symm, s3, hov⟩
            clear hh hi hx hdig hy hy9 s1 s2 s3 hv x2 x3 hov t1 hT
            as_aux_lemma =>
            go_wp2
            try rw [x1]
            rw [HX2.out]
            exact ⟨⟨10 * n + y, i + 1, T, by first | rfl | rw [hT'], rfl, HN⟩, HX3.out⟩
          · have t2 := s2 (by omega)
            have HN := hid (num_over (l := l) (i := i + 1) (by rw [← HR.out, hv]; omega))
            clear hh hi hx hdig hy hy9 s1 s2 s3 hv x2 x3 hov
            as_aux_lemma =>
            go_wp2
            go_ret2
            exact num_no (Below.refl _ _) HN.out
        · have HN := hid (num_bad (l := l) (c := x) (by rw [← HR.out]; exact List.mem_of_getElem? hx) (by omega))
          by_cases hlo : x.toNat < 48
          · have e1 : decide ((x.toNat : Int) < 48) = true := by simp; omega
            clear hh hi hx hdig hlo
            as_aux_lemma =>
            go_wp2
            go_ret2
            exact num_no (Below.refl _ _) HN.out
          · have e1 : decide ((x.toNat : Int) < 48) = false := by simp; omega
            have e2 : decide ((57 : Int) < (x.toNat : Int)) = true := by simp; omega
            clear hh hi hx hdig hlo
            as_aux_lemma =>
            go_wp2
            go_ret2
            exact num_no (Below.refl _ _) HN.out
      · have di : decide (i < r.length) = false := by simpa using hi
        have hfull : r.take i = r := List.take_of_length_le (by omega)
        have hzv : z = -(val r : Int) := by rw [hh.out.1, hh.out.2.2.1, hfull]
        have hz0 : z ≤ 0 ∧ -9223372036854775808 ≤ z := by have := hh.out; omega
        obtain ⟨q1, q2, -⟩ := num_neg (m := 0) hz0.1 hz0.2
        have HE : Hid (∀ m : Int, -9223372036854775808 ≤ m → m ≤ 9223372036854775807 → decN l = m → wrap64 (-z) = m) := hid (fun m _ m2 e => (num_neg hz0.1 hz0.2).2.2 (by rw [← e, HD.out, hzv]; omega) m2)
        obtain ⟨u, hu⟩ : ∃ u, u = wrap64 (-z) := ⟨_, rfl⟩
        rw [← hu] at HE q1 q2
        have hu' := hu.symm
        have wu : IntKind.i64.wrap (-z) = u := by rw [hu]; exact i64_wrap64 (-z)
        have CD := hid (fun wx => digs3_c u q1 q2 wx)
        have HQ := hid (And.intro q1 q2)
        clear hh hi hfull hzv hz0 hu q1 q2
        go_wp2_with fail
        refine (CD.out _).mono ?_
        rintro e w2 ⟨rfl, hb2⟩
        go_wp2
        go_ret2
        exact num_end HQ.out.1 HQ.out.2 HE.out hb2 (by rw [hsame])
end Go.Proofs.YtomgpkklbhdgiaaGreatDoor
