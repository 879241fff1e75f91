/- What the document's own Digits and Print of package float return. -/
import Derived.Test.YtomgpkklbhdgiaaGreatDoorFlR2
import Derived.Test.YtomgpkklbhdgiaaGreatDoorFlPr
import Derived.Laws.DeepStrings4
namespace Go.Proofs.YtomgpkklbhdgiaaGreatDoor
open Go.RowKit

theorem rDig_small (n : Nat) (w : World) (hn : n < 10) :
    Calls Tryz.prog 90 #[.int .i64 (n : Int)] w fun e w' => e = .returned (.string (str (dig n))) ∧ Below w.heap.size w w' := by
  obtain ⟨c8, hc8⟩ : ∃ c8, c8 = UInt8.ofNat (48 + n) := ⟨_, rfl⟩
  have hc : c8.toNat = 48 + n := by rw [hc8]; exact dig_char n hn
  have hb := Bts.lit w 5 [c8]
  have hbs : (bs [c8]).toArray = #[Value.int .u8 (48 + (n : Int))] := by
    unfold bs
    simp only [List.map_cons, List.map_nil, hc]
    congr 2
  rw [hbs] at hb
  have hcv : (convert 36 9 (.slice (some ⟨w.heap.size, 0, none⟩) 1 1)).run Tryz.prog (w.alloc (.cells #[Value.int .u8 (48 + (n : Int))] 5)) = .ok (.string (str [c8])) (w.alloc (.cells #[Value.int .u8 (48 + (n : Int))] 5)) := run_str 36 9 5 Tryz.underlying36 Tryz.underlying5 Tryz.underlying9 hb
  have d0 : decide ((n : Int) < 0) = false := by simp
  have d1 : decide ((n : Int) < 10) = true := by simp; omega
  have e1 : (48 + (n : Int)) % 256 = 48 + (n : Int) := by omega
  have e2 : IntKind.u8.wrap (48 + (n : Int)) = 48 + (n : Int) := by rw [IntKind.wrap_u8]; omega
  have hd : Hid (dig n = [c8]) := hid (by rw [dig_small hn, hc8])
  clear hc hb hbs hc8
  go_enter Tryz.func90, Tryz.ntmps90
  go_wp2
  go_ret
  exact ⟨by rw [hd.out]; rfl, (Below.refl _ _).alloc (Nat.le_refl _) _⟩

theorem rDig_c : ∀ (B n : Nat) (w : World), n ≤ B → n ≤ 9223372036854775807 →
    Calls Tryz.prog 90 #[.int .i64 (n : Int)] w fun e w' => e = .returned (.string (str (dig n))) ∧ Below w.heap.size w w' := by
  intro B
  induction B with
  | zero =>
    intro n w hn _
    exact rDig_small n w (by omega)
  | succ B ih =>
    intro n w hn hl
    by_cases hs : n < 10
    · exact rDig_small n w hs
    · have IH := hid ih
      clear ih
      have HL := hid (And.intro hn hl)
      have d1 : decide ((n : Int) < 10) = false := by simp; omega
      have hlen := dig_len 19 (n / 10) (by omega)
      have hlen2 := dig_len 19 (n % 10) (by omega)
      have hap : str (dig (n / 10)) ++ str (dig (n % 10)) = str (dig n) := by
        rw [str_app, dig_small (n := n % 10) (by omega), ← dig_big hs]
      have HAP := hid hap
      have k1 : ¬ 9223372036854775807 < (str (dig (n / 10))).size + (str (dig (n % 10))).size := by rw [str_size, str_size]; omega
      obtain ⟨q, hq⟩ : ∃ q, q = n / 10 := ⟨_, rfl⟩
      obtain ⟨r, hr⟩ : ∃ r, r = n % 10 := ⟨_, rfl⟩
      rw [← hq, ← hr] at HAP k1
      have HQ : Hid (q ≤ B ∧ q ≤ 9223372036854775807 ∧ r < 10) := hid (by omega)
      have e1 : (n : Int) / 10 = (q : Int) := by omega
      have e2 : (n : Int) % 10 = (r : Int) := by omega
      have e3 : Int.tdiv (n : Int) 10 = (q : Int) := by rw [Int.tdiv_eq_ediv_of_nonneg (by omega)]; exact e1
      have e4 : Int.tmod (n : Int) 10 = (r : Int) := by rw [Int.tmod_eq_emod_of_nonneg (by omega)]; exact e2
      have wq : wrap64 (q : Int) = (q : Int) := by unfold wrap64; omega
      have wr : wrap64 (r : Int) = (r : Int) := by unfold wrap64; omega
      clear hn hl hs hap hlen hlen2 hq hr
      go_enter Tryz.func90, Tryz.ntmps90
      go_wp2_with fail
      refine (IH.out q w HQ.out.1 HQ.out.2.1).mono ?_
      rintro e w2 ⟨rfl, hb2⟩
      go_wp2_with fail
      refine (rDig_small r w2 HQ.out.2.2).mono ?_
      rintro e w3 ⟨rfl, hb3⟩
      have hb4 := hb2.trans (hb3.mono hb2.size)
      go_wp2
      go_ret
      exact ⟨by rw [← HAP.out]; rfl, hb4⟩

theorem rDigits_c (n : Int) (hr : inRange n = true) (w : World) :
    Calls Tryz.prog 90 #[.int .i64 n] w fun e w' => e = .returned (.string (str (digI n))) ∧ Below w.heap.size w w' := by
  have hr2 : -9007199254740992 ≤ n ∧ n ≤ 9007199254740992 := by unfold inRange at hr; simpa using hr
  by_cases hn : n < 0
  · obtain ⟨k, hk⟩ : ∃ k, k = n.natAbs := ⟨_, rfl⟩
    have hlen := dig_len 16 k (by omega)
    have d0 : decide (n < 0) = true := by simpa using hn
    have e1 : IntKind.i64.wrap (-n) = (k : Int) := (IntWalk.i64_in _ (by omega)).trans (by omega)
    have hkl : k ≤ 9223372036854775807 := by omega
    have HAP : Hid ((⟨#[45]⟩ : ByteArray) ++ str (dig k) = str (digI n)) := hid (by
      show str [45] ++ str (dig k) = _
      rw [str_app]; unfold digI; rw [if_pos hn, ← hk]; rfl)
    have k1 : ¬ 9223372036854775807 < 1 + (str (dig k)).size := by rw [str_size]; omega
    clear hr hr2 hn hk hlen
    go_enter Tryz.func90, Tryz.ntmps90
    go_wp2_with fail
    refine (rDig_c k k w (Nat.le_refl _) hkl).mono ?_
    rintro e w2 ⟨rfl, hb2⟩
    go_wp2
    go_ret
    exact ⟨by rw [← HAP.out]; rfl, hb2⟩
  · obtain ⟨k, rfl⟩ : ∃ k : Nat, n = (k : Int) := ⟨n.toNat, by omega⟩
    have h : digI (k : Int) = dig k := by unfold digI; rw [if_neg (by omega)]; simp
    rw [h]
    exact rDig_c k k w (Nat.le_refl _) (by omega)

theorem str_ext (l : List UInt8) (a b : Nat) : (str l).extract a b = str ((l.drop a).take (b - a)) := by
  apply ByteArray.ext
  unfold str
  simp
/-- The sixteen digits, one of them cut out. -/
theorem cut16 (d : Nat) (hd : d < 16) (w : World) : (Instr.slice 9 (.string ⟨#[48, 49, 50, 51, 52, 53, 54, 55, 56, 57, 97, 98, 99, 100, 101, 102]⟩) (some (.int .u64 (d : Int))) (some (.int .u64 ((d : Int) + 1))) none).run Tryz.prog w = .ok (.string (str [hexd d])) w := by
  have h : ∀ e : Fin 16, [48, 49, 50, 51, 52, 53, 54, 55, 56, 57, 97, 98, 99, 100, 101, 102][e.val]? = some (hexd e.val) := by decide
  have hs : (str [48, 49, 50, 51, 52, 53, 54, 55, 56, 57, 97, 98, 99, 100, 101, 102]).size = 16 := rfl
  have key := run_slice_string_if (P := Tryz.prog) w 9 (str [48, 49, 50, 51, 52, 53, 54, 55, 56, 57, 97, 98, 99, 100, 101, 102]) .u64 .u64 d (d + 1) Tryz.underlying9
  rw [if_pos (by rw [hs]; omega), if_pos (by omega), str_ext] at key
  have h2 := h ⟨d, hd⟩
  have h3 : (List.drop ((d : Int)).toNat [48, 49, 50, 51, 52, 53, 54, 55, 56, 57, 97, 98, 99, 100, 101, 102]).take (((d : Int) + 1).toNat - ((d : Int)).toNat) = [hexd d] := by
    rw [Int.toNat_natCast, show ((d : Int) + 1).toNat - d = 1 by omega, List.take_one, List.head?_drop, h2]
    rfl
  rw [h3] at key
  exact key

set_option maxHeartbeats 2000000 in
theorem rPrint_c (u : Nat) (hu : u < 18446744073709551616) (w : World) :
    Calls Tryz.prog 55 #[.int .u64 (u : Int)] w fun e w' => e = .returned (.string (str (fPrint u))) ∧ Below w.heap.size w w' := by
  rw [← fPrint_canon]
  obtain ⟨c, hc⟩ : ∃ c, c = fCanon u := ⟨_, rfl⟩
  have hcl : c < 18446744073709551616 := by rw [hc]; exact fCanon_lt hu
  rw [← hc]
  have HC := hid hc
  clear hc
  obtain ⟨p, hp⟩ : ∃ p, p = fPrint c := ⟨_, rfl⟩
  rw [← hp]
  have HP := hid hp
  clear hp
  go_enter Tryz.func55, Tryz.ntmps55
  go_wp2_with fail
  refine (rCanon_c u hu w).mono ?_
  rintro e w' ⟨rfl, rfl⟩
  rw [← HC.out]
  clear HC
  go_wp2_with fail
  refine (rWhole_c c hcl w).mono ?_
  rintro e w' ⟨rfl, rfl⟩
  go_wp2_with fail
  refine (rIsNan_c c hcl w).mono ?_
  rintro e w' ⟨rfl, rfl⟩
  cases hn : fNan c
  · replace HP := hid (HP.out.trans (fPrint_not hn))
    by_cases h1 : c = 9218868437227405312
    · have d1 : ((c : Int) == 9218868437227405312) = true := by simp; omega
      have HR := hid (HP.out.trans (if_pos h1))
      generalize (fWhole c).getD 0 = x
      generalize (fWhole c).isSome = t
      clear HP h1
      go_wp2
      go_ret
      exact ⟨by rw [HR.out]; rfl, Below.refl _ _⟩
    have d1 : ((c : Int) == 9218868437227405312) = false := by simp; omega
    replace HP := hid (HP.out.trans (if_neg h1))
    clear h1
    by_cases h2 : c = 18442240474082181120
    · have d2 : ((c : Int) == 18442240474082181120) = true := by simp; omega
      have HR := hid (HP.out.trans (if_pos h2))
      generalize (fWhole c).getD 0 = x
      generalize (fWhole c).isSome = t
      clear HP h2
      go_wp2
      go_ret
      exact ⟨by rw [HR.out]; rfl, Below.refl _ _⟩
    have d2 : ((c : Int) == 18442240474082181120) = false := by simp; omega
    replace HP := hid (HP.out.trans (if_neg h2))
    clear h2
    by_cases h3 : c = 9223372036854775808
    · have d3 : ((c : Int) == 9223372036854775808) = true := by simp; omega
      have HR := hid (HP.out.trans (if_pos h3))
      generalize (fWhole c).getD 0 = x
      generalize (fWhole c).isSome = t
      clear HP h3
      go_wp2
      go_ret
      exact ⟨by rw [HR.out]; rfl, Below.refl _ _⟩
    have d3 : ((c : Int) == 9223372036854775808) = false := by simp; omega
    replace HP := hid (HP.out.trans (if_neg h3))
    clear h3
    cases hf : fWhole c with
    | some n =>
      rw [hf] at HP
      have hr := (fWhole_some hcl hf).1
      have hl := digI_len hr
      have k1 : ¬ 9223372036854775807 < (str (digI n)).size + 1 := by rw [str_size]; omega
      have HAP : Hid (str (digI n) ++ (⟨#[46]⟩ : ByteArray) = str p) := hid (by rw [HP.out]; exact str_app _ [46])
      clear HP hl hf
      go_wp2_with fail
      refine (rDigits_c n hr w).mono ?_
      rintro e w2 ⟨rfl, hb2⟩
      go_wp2
      go_ret
      exact ⟨by rw [← HAP.out]; rfl, hb2⟩
    | none =>
      rw [hf] at HP
      clear hf
      go_wp2_with fail
      go_loop [5, 6] (fun s k => ∃ (j : Nat) (z : Int) (l : List UInt8), k = .int .i64 z ∧ s = .string (str (48 :: 120 :: l)) ∧ Hid (z = 4 * (j : Int) - 4 ∧ j + l.length = 16 ∧ l ++ hexk j c = hexk 16 c)) (fun _ k => (intOf k + 4).toNat)
      case atStart => exact ⟨16, 60, [], rfl, rfl, hid ⟨by omega, rfl, rfl⟩⟩
      case round =>
        obtain ⟨j, z, l, rfl, rfl, hh⟩ := hrel
        cases j with
        | zero =>
          have d4 : decide (0 ≤ z) = false := by have := hh.out; simp; omega
          have HR : Hid (str (48 :: 120 :: l) = str p) := hid (by
            obtain ⟨_, _, h3⟩ := hh.out
            rw [HP.out]
            rw [show hexk 0 c = [] from rfl, List.append_nil] at h3
            rw [h3])
          clear hh HP
          go_wp2
          go_ret
          exact ⟨by rw [← HR.out]; rfl, Below.refl _ _⟩
        | succ j =>
          have d4 : decide (0 ≤ z) = true := by have := hh.out; simp; omega
          obtain ⟨d, hd⟩ : ∃ d, d = c / 16 ^ j % 16 := ⟨_, rfl⟩
          have hd16 : d < 16 := by omega
          have hcut := cut16 d hd16
          obtain ⟨m, hm⟩ : ∃ m : Nat, (m : Int) = z := ⟨4 * j, by have := hh.out; omega⟩
          have HM : Hid (m = 4 * j) := hid (by have := hh.out; omega)
          have hw1 : IntKind.u64.wrap z = z := IntWalk.u64_in _ (by have := hh.out; omega)
          have hshr : (c : Int) / 2 ^ z.toNat % 16 = (d : Int) := by
            have e2 : (2 : Int) ^ (4 * j) = ((16 ^ j : Nat) : Int) := by
              have e3 : (2 : Nat) ^ (4 * j) = 16 ^ j := by rw [Nat.pow_mul]
              rw [← e3]; simp
            rw [← hm, Int.toNat_natCast, HM.out, hd, e2, Int.natCast_emod, Int.natCast_ediv]
            rfl
          have hshr2 : ((c : Int) / 2 ^ z.toNat).tmod 16 = (d : Int) := by
            rw [Int.tmod_eq_emod_of_nonneg (Int.ediv_nonneg (by omega) (Int.pow_nonneg (by decide)))]
            exact hshr
          have hwd : IntKind.u64.wrap ((d : Int) + 1) = (d : Int) + 1 := IntWalk.u64_in _ (by omega)
          have hw2 : IntKind.i64.wrap (z - 4) = z - 4 := IntWalk.i64_in _ (by have := hh.out; omega)
          have hz64 : z ≤ 64 := by have := hh.out; omega
          have hz0 : 0 ≤ z := by have := hh.out; omega
          have HAP : Hid (str (48 :: 120 :: l) ++ str [hexd d] = str (48 :: 120 :: (l ++ [hexd d]))) := hid (by rw [str_app]; rfl)
          have HN : Hid (z - 4 = 4 * (j : Int) - 4 ∧ j + (l ++ [hexd d]).length = 16 ∧ (l ++ [hexd d]) ++ hexk j c = hexk 16 c) := hid (by
            obtain ⟨g1, g2, g3⟩ := hh.out
            refine ⟨by omega, by simp; omega, ?_⟩
            rw [← g3, hexk, ← hd]; simp)
          have k1 : ¬ 9223372036854775807 < (str (48 :: 120 :: l)).size + (str [hexd d]).size := by
            have := hh.out; rw [str_size, str_size]; simp; omega
          have k2 : ¬ 9223372036854775807 < (str (48 :: 120 :: l)).size + 1 := by
            have := hh.out; rw [str_size]; simp; omega
          have HZ := hid hz0
          clear hh hd HM hm
          go_wp2
          refine ⟨⟨j, z - 4, l ++ [hexd d], rfl, ?_, HN⟩, by have := HZ.out; simp [intOf]; omega⟩
          rw [← HAP.out]
  · replace HP := hid (HP.out.trans (fPrint_nan hn))
    generalize (fWhole c).getD 0 = x
    generalize (fWhole c).isSome = t
    go_wp2
    go_ret
    exact ⟨by rw [HP.out]; rfl, Below.refl _ _⟩
end Go.Proofs.YtomgpkklbhdgiaaGreatDoor
