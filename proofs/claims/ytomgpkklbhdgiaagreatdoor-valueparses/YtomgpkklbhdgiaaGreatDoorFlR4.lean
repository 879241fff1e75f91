/- What the document's own Parse of package float returns. -/
import Derived.Test.YtomgpkklbhdgiaaGreatDoorFlR3
import Derived.Test.YtomgpkklbhdgiaaGreatDoorFlPars2
import Derived.Laws.Strings3
import Derived.Laws.DeepStrings4
namespace Go.Proofs.YtomgpkklbhdgiaaGreatDoor
open Go.RowKit

def RP (l : List UInt8) (w : World) (e : Ending) (w' : World) : Prop :=
  Below w.heap.size w w' ∧ ∃ u : Int, e = .returned (.tuple #[.int .u64 u, .bool (fParse l).isSome]) ∧ ∀ v, fParse l = some v → u = ((v : Nat) : Int)
theorem str_at (l : List UInt8) (i : Nat) (c : UInt8) (h : l[i]? = some c) (k : IntKind) (w : World) : (Instr.index 9 (.string (str l)) (.int k (i : Int))).run Tryz.prog w = .ok (.int .u8 (c.toNat : Int)) w := by
  obtain ⟨hi, hc⟩ := List.getElem?_eq_some_iff.1 h
  rw [run_index_string w 9 _ k i Tryz.underlying9, dif_pos (by rw [str_size]; omega)]
  congr 3
  have h1 : (str l)[i]'(by rw [str_size]; omega) = c := by
    show l.toArray[i]'(by simpa using hi) = c
    simpa using hc
  exact congrArg UInt8.toNat h1
theorem str_to (l : List UInt8) (n : Nat) (hn : n ≤ l.length) (w : World) : (Instr.slice 9 (.string (str l)) none (some (.int .i64 (n : Int))) none).run Tryz.prog w = .ok (.string (str (l.take n))) w := by
  rw [run_slice_string_to_if w 9 _ .i64 n Tryz.underlying9, if_pos (by rw [str_size]; omega), str_ext]
  simp
theorem str_from1 (l : List UInt8) (hn : 1 ≤ l.length) (w : World) : (Instr.slice 9 (.string (str l)) (some (.int .i64 1)) none none).run Tryz.prog w = .ok (.string (str l.tail)) w := by
  rw [run_slice_string_from_if w 9 _ .i64 1 Tryz.underlying9, if_pos (by rw [str_size]; omega), str_ext, str_size]
  congr 3
  cases l with
  | nil => rfl
  | cons c r => simp
theorem idx16 (d : Nat) (hd : d < 16) (w : World) : (Instr.index 9 (.string ⟨#[48, 49, 50, 51, 52, 53, 54, 55, 56, 57, 97, 98, 99, 100, 101, 102]⟩) (.int .u64 (d : Int))).run Tryz.prog w = .ok (.int .u8 ((hexd d).toNat : Int)) w := by
  have h : ∀ e : Fin 16, [48, 49, 50, 51, 52, 53, 54, 55, 56, 57, 97, 98, 99, 100, 101, 102][e.val]? = some (hexd e.val) := by decide
  exact str_at [48, 49, 50, 51, 52, 53, 54, 55, 56, 57, 97, 98, 99, 100, 101, 102] d (hexd d) (h ⟨d, hd⟩) .u64 w

set_option maxHeartbeats 8000000 in
set_option maxRecDepth 100000 in
theorem rParseHex_c (r : List UInt8) (hr : r.length = 16) (w : World) :
    Calls Tryz.prog 56 #[.string (str (48 :: 120 :: r))] w (RP (48 :: 120 :: r) w) := by
  obtain ⟨l, hl⟩ : ∃ l, l = 48 :: 120 :: r := ⟨_, rfl⟩
  have hsz : ((str l).size : Int) = 18 := by rw [hl, str_size]; simp; omega
  have g1 : ∀ t : List UInt8, ((str l).toList == t) = decide (l = t) := fun t => by rw [str_list, Bool.eq_iff_iff]; simp
  have q1 : decide (l = [110, 97, 110]) = false := by rw [hl]; simp
  have q2 : decide (l = [105, 110, 102]) = false := by rw [hl]; simp
  have q3 : decide (l = [45, 105, 110, 102]) = false := by rw [hl]; simp
  have q4 : decide (l = [45, 48, 46]) = false := by rw [hl]; simp
  have hsl : ∀ wx, (Instr.slice 9 (.string (str l)) none (some (.int .i64 2)) none).run Tryz.prog wx = .ok (.string (str [48, 120])) wx := fun wx => by
    have h := str_to l 2 (by rw [hl]; simp) wx
    rw [hl] at h ⊢
    exact h
  have s2 : ((str [48, 120]).toList == [48, 120]) = true := by rw [str_list]; decide
  have HG : Hid (∀ i c, r[i]? = some c → l[i + 2]? = some c) := hid (fun i c h => by rw [hl]; simpa using h)
  have HL := hid hl
  rw [← hl]
  clear hl
  have HRL := hid hr
  clear hr
  go_enter Tryz.func56, Tryz.ntmps56
  go_wp2_with fail
  go_loopw [4, 5] (fun uv iv wr => ∃ (u i : Nat) (z : Int), uv = .int .u64 (u : Int) ∧ iv = .int .i64 z ∧ Below w.heap.size w wr ∧ Hid (z = (i : Int) + 2 ∧ i ≤ 16 ∧ u < 16 ^ i ∧ hexk i u = r.take i)) (fun _ iv _ => 18 - (intOf iv).toNat)
  case atStart => exact ⟨0, 0, 2, rfl, rfl, Below.refl _ _, hid ⟨rfl, by omega, by decide, rfl⟩⟩
  case round =>
    obtain ⟨u, i, z, rfl, rfl, hbel, hh⟩ := hrel
    by_cases hi : i < 16
    · obtain ⟨c, hc⟩ : ∃ c, r[i]? = some c := ⟨_, List.getElem?_eq_getElem (by rw [HRL.out]; exact hi)⟩
      have dz : decide (z < 18) = true := by have := hh.out; simp; omega
      have hz : z = ((i + 2 : Nat) : Int) := by have := hh.out; omega
      have hget : ∀ wx, (Instr.index 9 (.string (str l)) (.int .i64 z)).run Tryz.prog wx = .ok (.int .u8 (c.toNat : Int)) wx := fun wx => by rw [hz]; exact str_at l (i + 2) c (HG.out i c hc) .i64 wx
      have HI := hid (And.intro hi hc)
      clear hi hc hz
      go_wp2_with fail
      go_loopw [6] (fun dv wr => ∃ (d : Nat), dv = .int .u64 (d : Int) ∧ Below w.heap.size w wr ∧ Hid (d ≤ 16 ∧ ∀ e, e < d → hexd e ≠ c)) (fun dv _ => 16 - (intOf dv).toNat)
      case atStart => exact ⟨0, rfl, hbel, hid ⟨by omega, fun e he => by omega⟩⟩
      case round =>
        obtain ⟨d, rfl, hbel2, hd⟩ := hrel
        by_cases hd16 : d < 16
        · have dd : decide ((d : Int) < 16) = true := by simp; omega
          have hix := idx16 d hd16
          by_cases he : hexd d = c
          · have en : (((hexd d).toNat : Int) != (c.toNat : Int)) = false := by rw [he]; simp
            have ed : ((d : Int) == 16) = false := by simp; omega
            obtain ⟨g1', g2', g3', g4'⟩ := hh.out
            have hpw : (16 : Nat) ^ i ≤ 16 ^ 15 := Nat.pow_le_pow_right (by decide) (by have := HI.out.1; omega)
            have e15 : (16 : Nat) ^ 15 = 1152921504606846976 := by decide
            have hub : u < 1152921504606846976 := by omega
            have w1 : IntKind.u64.wrap (16 * (u : Int)) = 16 * (u : Int) := IntWalk.u64_in _ (by omega)
            have w2 : IntKind.u64.wrap (16 * (u : Int) + (d : Int)) = ((16 * u + d : Nat) : Int) := (IntWalk.u64_in _ (by omega)).trans (by omega)
            have w3 : wrap64 (z + 1) = z + 1 := by unfold wrap64; omega
            have HN : Hid (z + 1 = ((i + 1 : Nat) : Int) + 2 ∧ i + 1 ≤ 16 ∧ 16 * u + d < 16 ^ (i + 1) ∧ hexk (i + 1) (16 * u + d) = r.take (i + 1)) := hid ⟨by omega, by have := HI.out.1; omega, by rw [Nat.pow_succ]; omega, hexk_step g4' hd16 (by rw [he]; exact HI.out.2)⟩
            have HZ : Hid (z < 18 ∧ 0 ≤ z) := hid (by have := HI.out.1; omega)
            clear hd hd16 he g1' g2' g3' g4' hpw e15 hub hh
            go_wp2_with fail
            go_region
            go_wp2
            exact ⟨⟨16 * u + d, i + 1, z + 1, rfl, by rw [w3], hbel2.drew, HN⟩, by have := HZ.out; simp [intOf]; omega⟩
          · have en : (((hexd d).toNat : Int) != (c.toNat : Int)) = true := by
              simp
              intro h
              exact he (UInt8.toNat_inj.1 (by omega))
            have w1 : IntKind.u64.wrap ((d : Int) + 1) = ((d + 1 : Nat) : Int) := (IntWalk.u64_in _ (by omega)).trans (by omega)
            have HN : Hid (d + 1 ≤ 16 ∧ ∀ e, e < d + 1 → hexd e ≠ c) := hid ⟨by omega, fun e h => by
              rcases Nat.lt_or_ge e d with h2 | h2
              · exact hd.out.2 e h2
              · have : e = d := by omega
                rw [this]; exact he⟩
            have HD := hid hd16
            clear hd hd16 he hh
            go_wp2_with fail
            go_region
            go_wp2
            exact ⟨⟨d + 1, rfl, hbel2.drew, HN⟩, by have := HD.out; simp [intOf]; omega⟩
        · have hd2 : d = 16 := by have := hd.out; omega
          have HR : Hid (fParse l = none) := hid (by rw [HL.out]; exact hex_bad (List.mem_of_getElem? HI.out.2) (fun e he => hd.out.2 e (by omega)))
          subst hd2
          clear hd hd16 hh
          go_wp2_with fail
          go_region
          go_wp2
          go_ret2
          exact ⟨hbel2.drew, 0, by rw [HR.out]; rfl, fun v h => by rw [HR.out] at h; cases h⟩
    · have dz : decide (z < 18) = false := by have := hh.out; simp; omega
      have hi16 : i = 16 := by have := hh.out; omega
      subst hi16
      have hul : u < 18446744073709551616 := by have h := hh.out.2.2.1; rw [e1616] at h; exact h
      have HR : Hid (fParse l = if fPrint u = l then some u else none) := hid (by
        rw [HL.out]
        exact hex_end hul (by rw [hh.out.2.2.2, List.take_of_length_le (by rw [HRL.out]; exact Nat.le_refl _)]))
      have HN : Hid (fPrint u = l → fCanon u = u) := hid (fun h => by
        have h2 := HR.out
        rw [if_pos h] at h2
        exact (fParse_some h2).2.1)
      clear hh hi
      go_wp2_with fail
      refine (rPrint_c u hul wr).mono ?_
      rintro e w2 ⟨rfl, hb2⟩
      have hb3 := hbel.trans (hb2.mono hbel.size)
      by_cases he : fPrint u = l
      · have d1 : ((str (fPrint u)).toList == (str l).toList) = true := by rw [str_list, str_list]; simpa using he
        have HR2 : Hid (fParse l = some u) := hid (HR.out.trans (if_pos he))
        have HC := hid (HN.out he)
        clear he HR HN
        go_wp2_with fail
        refine (rCanon_c u hul w2).mono ?_
        rintro e w' ⟨rfl, rfl⟩
        rw [HC.out]
        go_wp2
        go_ret2
        exact ⟨hb3, _, by rw [HR2.out]; rfl, fun v h => by rw [HR2.out] at h; injection h with h; rw [h]⟩
      · have d1 : ((str (fPrint u)).toList == (str l).toList) = false := by rw [str_list, str_list]; simpa using he
        have HR2 : Hid (fParse l = none) := hid (HR.out.trans (if_neg he))
        clear he HR HN
        go_wp2
        go_ret2
        exact ⟨hb3, _, by rw [HR2.out]; rfl, fun v h => by rw [HR2.out] at h; cases h⟩

theorem val_take {r : List UInt8} {i : Nat} {c : UInt8} (h : r[i]? = some c) : val (r.take (i + 1)) = 10 * val (r.take i) + (c.toNat - 48) := by
  rw [List.take_add_one, h]
  exact val_snoc _ _

set_option maxHeartbeats 8000000 in
set_option maxRecDepth 100000 in
theorem rParseDec_c (l : List UInt8) (hlim : l.length ≤ 281474976710656) (w : World) (h1 : l ≠ tNan) (h2 : l ≠ tInf) (h3 : l ≠ tNinf) (h4 : l ≠ tNz) (h5 : ¬ (l.length = 18 ∧ l.take 2 = [48, 120])) :
    Calls Tryz.prog 56 #[.string (str l)] w (RP l w) := by
  have HA := hid (And.intro h1 (And.intro h2 (And.intro h3 (And.intro h4 h5))))
  have hsz : (str l).size = l.length := str_size l
  have g1 : ∀ t : List UInt8, ((str l).toList == t) = decide (l = t) := fun t => by rw [str_list, Bool.eq_iff_iff]; simp
  have q1 : decide (l = [110, 97, 110]) = false := decide_eq_false (show ¬ l = [110, 97, 110] from h1)
  have q2 : decide (l = [105, 110, 102]) = false := decide_eq_false (show ¬ l = [105, 110, 102] from h2)
  have q3 : decide (l = [45, 105, 110, 102]) = false := decide_eq_false (show ¬ l = [45, 105, 110, 102] from h3)
  have q4 : decide (l = [45, 48, 46]) = false := decide_eq_false (show ¬ l = [45, 48, 46] from h4)
  clear h1 h2 h3 h4 h5
  obtain ⟨L, hL⟩ : ∃ L : Int, L = (l.length : Int) := ⟨_, rfl⟩
  have hszI : ((str l).size : Int) = L := by rw [hsz, hL]
  have HLL := hid (And.intro hL hlim)
  clear hsz hL hlim
  -- the first test: sixteen digits behind 0x?
  have first18 : (L == 18) = false ∨ ((L == 18) = true ∧ (∀ wx, (Instr.slice 9 (.string (str l)) none (some (.int .i64 2)) none).run Tryz.prog wx = .ok (.string (str (l.take 2))) wx) ∧ ((str (l.take 2)).toList == [48, 120]) = false) := by
    by_cases h : l.length = 18
    · refine .inr ⟨by have := HLL.out.1; simp; omega, fun wx => str_to l 2 (by omega) wx, ?_⟩
      rw [str_list]
      simpa using fun e => HA.out.2.2.2.2 ⟨h, e⟩
    · exact .inl (by have := HLL.out.1; simp; omega)
  by_cases hshort : l.length < 2
  · have HR : Hid (fParse l = none) := hid (dec_short HA.out.1 HA.out.2.1 HA.out.2.2.1 HA.out.2.2.2.1 HA.out.2.2.2.2 (.inl hshort))
    have d1 : decide (L < 2) = true := by have := HLL.out.1; simp; omega
    have d0 : (L == 18) = false := by have := HLL.out.1; simp; omega
    clear hshort first18
    go_enter Tryz.func56, Tryz.ntmps56
    go_wp2
    go_ret2
    exact ⟨Below.refl _ _, 0, by rw [HR.out]; rfl, fun v h => by rw [HR.out] at h; cases h⟩
  have d1 : decide (L < 2) = false := by have := HLL.out.1; simp; omega
  by_cases hlong : 18 < l.length
  · have HR : Hid (fParse l = none) := hid (dec_short HA.out.1 HA.out.2.1 HA.out.2.2.1 HA.out.2.2.2.1 HA.out.2.2.2.2 (.inr (.inl hlong)))
    have d2 : decide (18 < L) = true := by have := HLL.out.1; simp; omega
    have d0 : (L == 18) = false := by have := HLL.out.1; simp; omega
    clear hshort hlong first18
    go_enter Tryz.func56, Tryz.ntmps56
    go_wp2
    go_ret2
    exact ⟨Below.refl _ _, 0, by rw [HR.out]; rfl, fun v h => by rw [HR.out] at h; cases h⟩
  have d2 : decide (18 < L) = false := by have := HLL.out.1; simp; omega
  obtain ⟨n1, hn1⟩ : ∃ n1, l.length = n1 + 1 := ⟨l.length - 1, by omega⟩
  obtain ⟨N1, hN1⟩ : ∃ N1 : Int, N1 = (n1 : Int) := ⟨_, rfl⟩
  have wl : wrap64 (L - 1) = N1 := by have := HLL.out.1; unfold wrap64; omega
  obtain ⟨c, hc⟩ : ∃ c, l[n1]? = some c := ⟨_, List.getElem?_eq_getElem (by omega)⟩
  have hlast : l.getLast? = some c := by rw [List.getLast?_eq_getElem?, hn1]; exact hc
  have hgl : ∀ wx, (Instr.index 9 (.string (str l)) (.int .i64 N1)).run Tryz.prog wx = .ok (.int .u8 (c.toNat : Int)) wx := fun wx => by rw [hN1]; exact str_at l n1 c hc .i64 wx
  by_cases hdot : c = 46
  · have d3 : ((c.toNat : Int) != 46) = false := by rw [hdot]; rfl
    obtain ⟨b, hb⟩ : ∃ b, b = l.dropLast := ⟨_, rfl⟩
    have hbt : l.take n1 = b := by rw [hb, List.dropLast_eq_take, hn1]; rfl
    have hbl : b.length = n1 := by rw [hb]; simp; omega
    have hsl : ∀ wx, (Instr.slice 9 (.string (str l)) none (some (.int .i64 N1)) none).run Tryz.prog wx = .ok (.string (str b)) wx := fun wx => by rw [hN1, ← hbt]; exact str_to l n1 (by omega) wx
    obtain ⟨c0, hc0⟩ : ∃ c0, b[0]? = some c0 := ⟨_, List.getElem?_eq_getElem (by omega)⟩
    have hg0 : ∀ wx, (Instr.index 9 (.string (str b)) (.int .i64 0)).run Tryz.prog wx = .ok (.int .u8 (c0.toNat : Int)) wx := fun wx => str_at b 0 c0 hc0 .i64 wx
    have hhd : b.head? = some c0 := by rw [List.head?_eq_getElem?]; exact hc0
    have HB := hid hb
    have HBL : Hid (1 ≤ b.length ∧ b.length ≤ 17) := hid (by omega)
    clear hshort hlong hn1 hN1 hc hlast hdot hb hbt hbl hc0
    by_cases hneg : c0 = 45
    · have d4 : ((c0.toNat : Int) == 45) = true := by rw [hneg]; rfl
      have hf1 : ∀ wx, (Instr.slice 9 (.string (str b)) (some (.int .i64 1)) none none).run Tryz.prog wx = .ok (.string (str b.tail)) wx := fun wx => str_from1 b HBL.out.1 wx
      obtain ⟨r, hr⟩ : ∃ r, r = b.tail := ⟨_, rfl⟩
      have HRR : Hid (decR l.dropLast = r ∧ decN l.dropLast = -(val r : Int) ∧ r.length ≤ 17) := hid (by
        rw [← HB.out]
        unfold decR decN
        rw [hhd, hneg, if_pos rfl, if_pos rfl, hr]
        exact ⟨rfl, rfl, by have := HBL.out; simp; omega⟩)
      rw [← hr] at hf1
      clear hr hhd hneg HB HBL
      rcases first18 with d0 | ⟨d0, hsl2, d02⟩
      · go_enter Tryz.func56, Tryz.ntmps56
        go_wp2_with fail
        go_loop [9, 10] (fun nv iv => ∃ (n i : Nat) (a z : Int), nv = .int .i64 a ∧ iv = .int .i64 z ∧ Hid (a = (n : Int) ∧ z = (i : Int) ∧ i ≤ r.length ∧ n = val (r.take i) ∧ n < 10 ^ i)) (fun _ iv => r.length - (intOf iv).toNat)
        case atStart => exact ⟨0, 0, 0, 0, rfl, rfl, hid ⟨rfl, rfl, by omega, rfl, by decide⟩⟩
        case round =>
          obtain ⟨n, i, a, z, rfl, rfl, hh⟩ := hrel
          by_cases hi : i < r.length
          · obtain ⟨x, hx⟩ : ∃ x, r[i]? = some x := ⟨_, List.getElem?_eq_getElem hi⟩
            have hz : z = (i : Int) := hh.out.2.1
            have dz : decide (z < ((str r).size : Int)) = true := by rw [str_size]; simp; omega
            have hgx : ∀ wx, (Instr.index 9 (.string (str r)) (.int .i64 z)).run Tryz.prog wx = .ok (.int .u8 (x.toNat : Int)) wx := fun wx => by rw [hz]; exact str_at r i x hx .i64 wx
            have hx256 := x.toNat_lt
            by_cases hdig : 48 ≤ x.toNat ∧ x.toNat ≤ 57
            · have e1 : decide ((x.toNat : Int) < 48) = false := by simp; omega
              have e2 : decide ((57 : Int) < (x.toNat : Int)) = false := by simp; omega
              obtain ⟨y, hy⟩ : ∃ y, y = x.toNat - 48 := ⟨_, rfl⟩
              have e3 : ((x.toNat : Int) - 48) % 256 = (y : Int) := by omega
              have e3' : (x.toNat : Int) - 48 = (y : Int) := by omega
              have e4 : IntKind.u8.wrap ((x.toNat : Int) - 48) = (y : Int) := by rw [IntKind.wrap_u8]; omega
              have hp : (10 : Nat) ^ i ≤ 10 ^ 16 := Nat.pow_le_pow_right (by decide) (by have := HRR.out.2.2; omega)
              have e16 : (10 : Nat) ^ 16 = 10000000000000000 := by decide
              have hab : 0 ≤ a ∧ a < 10000000000000000 := by have := hh.out; omega
              have w1 : IntKind.i64.wrap (10 * a) = 10 * a := IntWalk.i64_in _ (by omega)
              have w2 : IntKind.i64.wrap (10 * a + (y : Int)) = 10 * a + (y : Int) := IntWalk.i64_in _ (by omega)
              have w1' : wrap64 (10 * a) = 10 * a := by unfold wrap64; omega
              have w2' : wrap64 (10 * a + (y : Int)) = 10 * a + (y : Int) := by unfold wrap64; omega
              have w3 : wrap64 (z + 1) = z + 1 := by have := HRR.out.2.2; unfold wrap64; omega
              have HN : Hid (10 * a + (y : Int) = ((10 * n + y : Nat) : Int) ∧ z + 1 = ((i + 1 : Nat) : Int) ∧ i + 1 ≤ r.length ∧ 10 * n + y = val (r.take (i + 1)) ∧ 10 * n + y < 10 ^ (i + 1)) := hid (by
                obtain ⟨k1, k2, k3, k4, k5⟩ := hh.out
                refine ⟨by omega, by omega, by omega, ?_, by rw [Nat.pow_succ]; omega⟩
                rw [val_take hx, ← k4, hy])
              have HZ : Hid (0 ≤ z ∧ z < (r.length : Int)) := hid (by omega)
              clear hh hi hx hz hdig hy hp e16 hab hx256
              go_wp2
              refine ⟨⟨10 * n + y, i + 1, 10 * a + (y : Int), z + 1, ?_, ?_, HN⟩, by have := HZ.out; simp [intOf]; omega⟩
              · first | rfl | (congr 1; omega)
              · first | rfl | rw [w3] | (congr 1; omega)
            · have HR : Hid (fParse l = none) := hid (dec_bad HA.out.1 HA.out.2.1 HA.out.2.2.1 HA.out.2.2.2.1 HA.out.2.2.2.2 (c := x) (by rw [HRR.out.1]; exact List.mem_of_getElem? hx) (by omega))
              by_cases hlo : x.toNat < 48
              · have e1 : decide ((x.toNat : Int) < 48) = true := by simp; omega
                clear hh hi hx hz hdig hlo
                go_wp2
                go_ret2
                exact ⟨Below.refl _ _, 0, by rw [HR.out]; rfl, fun v h => by rw [HR.out] at h; cases h⟩
              · have e1 : decide ((x.toNat : Int) < 48) = false := by simp; omega
                have e2 : decide ((57 : Int) < (x.toNat : Int)) = true := by simp; omega
                clear hh hi hx hz hdig hlo
                go_wp2
                go_ret2
                exact ⟨Below.refl _ _, 0, by rw [HR.out]; rfl, fun v h => by rw [HR.out] at h; cases h⟩
          · have dz : decide (z < ((str r).size : Int)) = false := by rw [str_size]; have := hh.out; simp; omega
            obtain ⟨m, hm⟩ : ∃ m : Int, m = decN l.dropLast := ⟨_, rfl⟩
            have hma : -a = m := by
              obtain ⟨k1, k2, k3, k4, k5⟩ := hh.out
              rw [hm, HRR.out.2.1, k1, k4, List.take_of_length_le (by omega)]
            have hab : 0 ≤ a ∧ a < 100000000000000000 := by
              obtain ⟨k1, k2, k3, k4, k5⟩ := hh.out
              have hp : (10 : Nat) ^ i ≤ 10 ^ 17 := Nat.pow_le_pow_right (by decide) (by have := HRR.out.2.2; omega)
              have e17 : (10 : Nat) ^ 17 = 100000000000000000 := by decide
              omega
            have wn : IntKind.i64.wrap (-a) = m := (IntWalk.i64_in _ (by omega)).trans hma
            have wn' : wrap64 (-a) = m := by unfold wrap64; omega
            clear hma
            have HE := hid (dec_end HA.out.1 HA.out.2.1 HA.out.2.2.1 HA.out.2.2.2.1 HA.out.2.2.2.2 hm)
            clear hm hh hi hab
            obtain ⟨f, hf⟩ : ∃ f, f = fFrom m := ⟨_, rfl⟩
            have HF := hid hf
            clear hf
            go_wp2_with fail
            refine (rFromInt_c m w).mono ?_
            rintro e w' ⟨rfl, rfl⟩
            rw [← HF.out]
            cases hr : inRange m
            · have HR : Hid (fParse l = none) := hid (HE.out.trans (if_neg (by rw [hr]; simp)))
              go_wp2
              go_ret2
              exact ⟨Below.refl _ _, 0, by rw [HR.out]; rfl, fun v h => by rw [HR.out] at h; cases h⟩
            · have hfm : f = fOfInt m := HF.out.trans (fFrom_is hr)
              have hfl : f < 18446744073709551616 := by rw [hfm]; exact (fOfInt_lt hr).1
              have HFM := hid hfm
              clear hfm
              go_wp2_with fail
              refine (rPrint_c f hfl w).mono ?_
              rintro e w2 ⟨rfl, hb2⟩
              by_cases he : fPrint f = l
              · have e1 : ((str (fPrint f)).toList == (str l).toList) = true := by rw [str_list, str_list]; simpa using he
                have HR : Hid (fParse l = some f) := hid (HE.out.trans (by rw [if_pos ⟨hr, by rw [← HFM.out]; exact he⟩, HFM.out]))
                clear he
                go_wp2
                go_ret2
                exact ⟨hb2, _, by rw [HR.out]; rfl, fun v h => by rw [HR.out] at h; injection h with h; rw [h]⟩
              · have e1 : ((str (fPrint f)).toList == (str l).toList) = false := by rw [str_list, str_list]; simpa using he
                have HR : Hid (fParse l = none) := hid (HE.out.trans (if_neg (by rw [← HFM.out]; exact fun h => he h.2)))
                clear he
                go_wp2
                go_ret2
                exact ⟨hb2, 0, by rw [HR.out]; rfl, fun v h => by rw [HR.out] at h; cases h⟩
      · go_enter Tryz.func56, Tryz.ntmps56
        go_wp2_with fail
        go_loop [9, 10] (fun nv iv => ∃ (n i : Nat) (a z : Int), nv = .int .i64 a ∧ iv = .int .i64 z ∧ Hid (a = (n : Int) ∧ z = (i : Int) ∧ i ≤ r.length ∧ n = val (r.take i) ∧ n < 10 ^ i)) (fun _ iv => r.length - (intOf iv).toNat)
        case atStart => exact ⟨0, 0, 0, 0, rfl, rfl, hid ⟨rfl, rfl, by omega, rfl, by decide⟩⟩
        case round =>
          obtain ⟨n, i, a, z, rfl, rfl, hh⟩ := hrel
          by_cases hi : i < r.length
          · obtain ⟨x, hx⟩ : ∃ x, r[i]? = some x := ⟨_, List.getElem?_eq_getElem hi⟩
            have hz : z = (i : Int) := hh.out.2.1
            have dz : decide (z < ((str r).size : Int)) = true := by rw [str_size]; simp; omega
            have hgx : ∀ wx, (Instr.index 9 (.string (str r)) (.int .i64 z)).run Tryz.prog wx = .ok (.int .u8 (x.toNat : Int)) wx := fun wx => by rw [hz]; exact str_at r i x hx .i64 wx
            have hx256 := x.toNat_lt
            by_cases hdig : 48 ≤ x.toNat ∧ x.toNat ≤ 57
            · have e1 : decide ((x.toNat : Int) < 48) = false := by simp; omega
              have e2 : decide ((57 : Int) < (x.toNat : Int)) = false := by simp; omega
              obtain ⟨y, hy⟩ : ∃ y, y = x.toNat - 48 := ⟨_, rfl⟩
              have e3 : ((x.toNat : Int) - 48) % 256 = (y : Int) := by omega
              have e3' : (x.toNat : Int) - 48 = (y : Int) := by omega
              have e4 : IntKind.u8.wrap ((x.toNat : Int) - 48) = (y : Int) := by rw [IntKind.wrap_u8]; omega
              have hp : (10 : Nat) ^ i ≤ 10 ^ 16 := Nat.pow_le_pow_right (by decide) (by have := HRR.out.2.2; omega)
              have e16 : (10 : Nat) ^ 16 = 10000000000000000 := by decide
              have hab : 0 ≤ a ∧ a < 10000000000000000 := by have := hh.out; omega
              have w1 : IntKind.i64.wrap (10 * a) = 10 * a := IntWalk.i64_in _ (by omega)
              have w2 : IntKind.i64.wrap (10 * a + (y : Int)) = 10 * a + (y : Int) := IntWalk.i64_in _ (by omega)
              have w1' : wrap64 (10 * a) = 10 * a := by unfold wrap64; omega
              have w2' : wrap64 (10 * a + (y : Int)) = 10 * a + (y : Int) := by unfold wrap64; omega
              have w3 : wrap64 (z + 1) = z + 1 := by have := HRR.out.2.2; unfold wrap64; omega
              have HN : Hid (10 * a + (y : Int) = ((10 * n + y : Nat) : Int) ∧ z + 1 = ((i + 1 : Nat) : Int) ∧ i + 1 ≤ r.length ∧ 10 * n + y = val (r.take (i + 1)) ∧ 10 * n + y < 10 ^ (i + 1)) := hid (by
                obtain ⟨k1, k2, k3, k4, k5⟩ := hh.out
                refine ⟨by omega, by omega, by omega, ?_, by rw [Nat.pow_succ]; omega⟩
                rw [val_take hx, ← k4, hy])
              have HZ : Hid (0 ≤ z ∧ z < (r.length : Int)) := hid (by omega)
              clear hh hi hx hz hdig hy hp e16 hab hx256
              go_wp2
              refine ⟨⟨10 * n + y, i + 1, 10 * a + (y : Int), z + 1, ?_, ?_, HN⟩, by have := HZ.out; simp [intOf]; omega⟩
              · first | rfl | (congr 1; omega)
              · first | rfl | rw [w3] | (congr 1; omega)
            · have HR : Hid (fParse l = none) := hid (dec_bad HA.out.1 HA.out.2.1 HA.out.2.2.1 HA.out.2.2.2.1 HA.out.2.2.2.2 (c := x) (by rw [HRR.out.1]; exact List.mem_of_getElem? hx) (by omega))
              by_cases hlo : x.toNat < 48
              · have e1 : decide ((x.toNat : Int) < 48) = true := by simp; omega
                clear hh hi hx hz hdig hlo
                go_wp2
                go_ret2
                exact ⟨Below.refl _ _, 0, by rw [HR.out]; rfl, fun v h => by rw [HR.out] at h; cases h⟩
              · have e1 : decide ((x.toNat : Int) < 48) = false := by simp; omega
                have e2 : decide ((57 : Int) < (x.toNat : Int)) = true := by simp; omega
                clear hh hi hx hz hdig hlo
                go_wp2
                go_ret2
                exact ⟨Below.refl _ _, 0, by rw [HR.out]; rfl, fun v h => by rw [HR.out] at h; cases h⟩
          · have dz : decide (z < ((str r).size : Int)) = false := by rw [str_size]; have := hh.out; simp; omega
            obtain ⟨m, hm⟩ : ∃ m : Int, m = decN l.dropLast := ⟨_, rfl⟩
            have hma : -a = m := by
              obtain ⟨k1, k2, k3, k4, k5⟩ := hh.out
              rw [hm, HRR.out.2.1, k1, k4, List.take_of_length_le (by omega)]
            have hab : 0 ≤ a ∧ a < 100000000000000000 := by
              obtain ⟨k1, k2, k3, k4, k5⟩ := hh.out
              have hp : (10 : Nat) ^ i ≤ 10 ^ 17 := Nat.pow_le_pow_right (by decide) (by have := HRR.out.2.2; omega)
              have e17 : (10 : Nat) ^ 17 = 100000000000000000 := by decide
              omega
            have wn : IntKind.i64.wrap (-a) = m := (IntWalk.i64_in _ (by omega)).trans hma
            have wn' : wrap64 (-a) = m := by unfold wrap64; omega
            clear hma
            have HE := hid (dec_end HA.out.1 HA.out.2.1 HA.out.2.2.1 HA.out.2.2.2.1 HA.out.2.2.2.2 hm)
            clear hm hh hi hab
            obtain ⟨f, hf⟩ : ∃ f, f = fFrom m := ⟨_, rfl⟩
            have HF := hid hf
            clear hf
            go_wp2_with fail
            refine (rFromInt_c m w).mono ?_
            rintro e w' ⟨rfl, rfl⟩
            rw [← HF.out]
            cases hr : inRange m
            · have HR : Hid (fParse l = none) := hid (HE.out.trans (if_neg (by rw [hr]; simp)))
              go_wp2
              go_ret2
              exact ⟨Below.refl _ _, 0, by rw [HR.out]; rfl, fun v h => by rw [HR.out] at h; cases h⟩
            · have hfm : f = fOfInt m := HF.out.trans (fFrom_is hr)
              have hfl : f < 18446744073709551616 := by rw [hfm]; exact (fOfInt_lt hr).1
              have HFM := hid hfm
              clear hfm
              go_wp2_with fail
              refine (rPrint_c f hfl w).mono ?_
              rintro e w2 ⟨rfl, hb2⟩
              by_cases he : fPrint f = l
              · have e1 : ((str (fPrint f)).toList == (str l).toList) = true := by rw [str_list, str_list]; simpa using he
                have HR : Hid (fParse l = some f) := hid (HE.out.trans (by rw [if_pos ⟨hr, by rw [← HFM.out]; exact he⟩, HFM.out]))
                clear he
                go_wp2
                go_ret2
                exact ⟨hb2, _, by rw [HR.out]; rfl, fun v h => by rw [HR.out] at h; injection h with h; rw [h]⟩
              · have e1 : ((str (fPrint f)).toList == (str l).toList) = false := by rw [str_list, str_list]; simpa using he
                have HR : Hid (fParse l = none) := hid (HE.out.trans (if_neg (by rw [← HFM.out]; exact fun h => he h.2)))
                clear he
                go_wp2
                go_ret2
                exact ⟨hb2, 0, by rw [HR.out]; rfl, fun v h => by rw [HR.out] at h; cases h⟩
    · have d4 : ((c0.toNat : Int) == 45) = false := by
        simp
        intro h
        exact hneg (UInt8.toNat_inj.1 (by rw [show (45 : UInt8).toNat = 45 from rfl]; omega))
      obtain ⟨r, hr⟩ : ∃ r, r = b := ⟨_, rfl⟩
      have HRR : Hid (decR l.dropLast = r ∧ decN l.dropLast = (val r : Int) ∧ r.length ≤ 17) := hid (by
        rw [← HB.out]
        unfold decR decN
        rw [hhd, if_neg (by intro h; injection h with h; exact hneg h), if_neg (by intro h; injection h with h; exact hneg h), hr]
        exact ⟨rfl, rfl, HBL.out.2⟩)
      rw [← hr] at hsl hg0
      clear hr hhd hneg HB HBL
      rcases first18 with d0 | ⟨d0, hsl2, d02⟩
      · go_enter Tryz.func56, Tryz.ntmps56
        go_wp2_with fail
        go_loop [9, 10] (fun nv iv => ∃ (n i : Nat) (a z : Int), nv = .int .i64 a ∧ iv = .int .i64 z ∧ Hid (a = (n : Int) ∧ z = (i : Int) ∧ i ≤ r.length ∧ n = val (r.take i) ∧ n < 10 ^ i)) (fun _ iv => r.length - (intOf iv).toNat)
        case atStart => exact ⟨0, 0, 0, 0, rfl, rfl, hid ⟨rfl, rfl, by omega, rfl, by decide⟩⟩
        case round =>
          obtain ⟨n, i, a, z, rfl, rfl, hh⟩ := hrel
          by_cases hi : i < r.length
          · obtain ⟨x, hx⟩ : ∃ x, r[i]? = some x := ⟨_, List.getElem?_eq_getElem hi⟩
            have hz : z = (i : Int) := hh.out.2.1
            have dz : decide (z < ((str r).size : Int)) = true := by rw [str_size]; simp; omega
            have hgx : ∀ wx, (Instr.index 9 (.string (str r)) (.int .i64 z)).run Tryz.prog wx = .ok (.int .u8 (x.toNat : Int)) wx := fun wx => by rw [hz]; exact str_at r i x hx .i64 wx
            have hx256 := x.toNat_lt
            by_cases hdig : 48 ≤ x.toNat ∧ x.toNat ≤ 57
            · have e1 : decide ((x.toNat : Int) < 48) = false := by simp; omega
              have e2 : decide ((57 : Int) < (x.toNat : Int)) = false := by simp; omega
              obtain ⟨y, hy⟩ : ∃ y, y = x.toNat - 48 := ⟨_, rfl⟩
              have e3 : ((x.toNat : Int) - 48) % 256 = (y : Int) := by omega
              have e3' : (x.toNat : Int) - 48 = (y : Int) := by omega
              have e4 : IntKind.u8.wrap ((x.toNat : Int) - 48) = (y : Int) := by rw [IntKind.wrap_u8]; omega
              have hp : (10 : Nat) ^ i ≤ 10 ^ 16 := Nat.pow_le_pow_right (by decide) (by have := HRR.out.2.2; omega)
              have e16 : (10 : Nat) ^ 16 = 10000000000000000 := by decide
              have hab : 0 ≤ a ∧ a < 10000000000000000 := by have := hh.out; omega
              have w1 : IntKind.i64.wrap (10 * a) = 10 * a := IntWalk.i64_in _ (by omega)
              have w2 : IntKind.i64.wrap (10 * a + (y : Int)) = 10 * a + (y : Int) := IntWalk.i64_in _ (by omega)
              have w1' : wrap64 (10 * a) = 10 * a := by unfold wrap64; omega
              have w2' : wrap64 (10 * a + (y : Int)) = 10 * a + (y : Int) := by unfold wrap64; omega
              have w3 : wrap64 (z + 1) = z + 1 := by have := HRR.out.2.2; unfold wrap64; omega
              have HN : Hid (10 * a + (y : Int) = ((10 * n + y : Nat) : Int) ∧ z + 1 = ((i + 1 : Nat) : Int) ∧ i + 1 ≤ r.length ∧ 10 * n + y = val (r.take (i + 1)) ∧ 10 * n + y < 10 ^ (i + 1)) := hid (by
                obtain ⟨k1, k2, k3, k4, k5⟩ := hh.out
                refine ⟨by omega, by omega, by omega, ?_, by rw [Nat.pow_succ]; omega⟩
                rw [val_take hx, ← k4, hy])
              have HZ : Hid (0 ≤ z ∧ z < (r.length : Int)) := hid (by omega)
              clear hh hi hx hz hdig hy hp e16 hab hx256
              go_wp2
              refine ⟨⟨10 * n + y, i + 1, 10 * a + (y : Int), z + 1, ?_, ?_, HN⟩, by have := HZ.out; simp [intOf]; omega⟩
              · first | rfl | (congr 1; omega)
              · first | rfl | rw [w3] | (congr 1; omega)
            · have HR : Hid (fParse l = none) := hid (dec_bad HA.out.1 HA.out.2.1 HA.out.2.2.1 HA.out.2.2.2.1 HA.out.2.2.2.2 (c := x) (by rw [HRR.out.1]; exact List.mem_of_getElem? hx) (by omega))
              by_cases hlo : x.toNat < 48
              · have e1 : decide ((x.toNat : Int) < 48) = true := by simp; omega
                clear hh hi hx hz hdig hlo
                go_wp2
                go_ret2
                exact ⟨Below.refl _ _, 0, by rw [HR.out]; rfl, fun v h => by rw [HR.out] at h; cases h⟩
              · have e1 : decide ((x.toNat : Int) < 48) = false := by simp; omega
                have e2 : decide ((57 : Int) < (x.toNat : Int)) = true := by simp; omega
                clear hh hi hx hz hdig hlo
                go_wp2
                go_ret2
                exact ⟨Below.refl _ _, 0, by rw [HR.out]; rfl, fun v h => by rw [HR.out] at h; cases h⟩
          · have dz : decide (z < ((str r).size : Int)) = false := by rw [str_size]; have := hh.out; simp; omega
            obtain ⟨m, hm⟩ : ∃ m : Int, m = decN l.dropLast := ⟨_, rfl⟩
            have hma : a = m := by
              obtain ⟨k1, k2, k3, k4, k5⟩ := hh.out
              rw [hm, HRR.out.2.1, k1, k4, List.take_of_length_le (by omega)]
            have hab : 0 ≤ a ∧ a < 100000000000000000 := by
              obtain ⟨k1, k2, k3, k4, k5⟩ := hh.out
              have hp : (10 : Nat) ^ i ≤ 10 ^ 17 := Nat.pow_le_pow_right (by decide) (by have := HRR.out.2.2; omega)
              have e17 : (10 : Nat) ^ 17 = 100000000000000000 := by decide
              omega
            have HMA := hid hma
            clear hma
            have HE := hid (dec_end HA.out.1 HA.out.2.1 HA.out.2.2.1 HA.out.2.2.2.1 HA.out.2.2.2.2 hm)
            clear hm hh hi hab
            obtain ⟨f, hf⟩ : ∃ f, f = fFrom m := ⟨_, rfl⟩
            have HF := hid hf
            clear hf
            go_wp2_with fail
            rw [HMA.out]
            refine (rFromInt_c m w).mono ?_
            rintro e w' ⟨rfl, rfl⟩
            rw [← HF.out]
            cases hr : inRange m
            · have HR : Hid (fParse l = none) := hid (HE.out.trans (if_neg (by rw [hr]; simp)))
              go_wp2
              go_ret2
              exact ⟨Below.refl _ _, 0, by rw [HR.out]; rfl, fun v h => by rw [HR.out] at h; cases h⟩
            · have hfm : f = fOfInt m := HF.out.trans (fFrom_is hr)
              have hfl : f < 18446744073709551616 := by rw [hfm]; exact (fOfInt_lt hr).1
              have HFM := hid hfm
              clear hfm
              go_wp2_with fail
              refine (rPrint_c f hfl w).mono ?_
              rintro e w2 ⟨rfl, hb2⟩
              by_cases he : fPrint f = l
              · have e1 : ((str (fPrint f)).toList == (str l).toList) = true := by rw [str_list, str_list]; simpa using he
                have HR : Hid (fParse l = some f) := hid (HE.out.trans (by rw [if_pos ⟨hr, by rw [← HFM.out]; exact he⟩, HFM.out]))
                clear he
                go_wp2
                go_ret2
                exact ⟨hb2, _, by rw [HR.out]; rfl, fun v h => by rw [HR.out] at h; injection h with h; rw [h]⟩
              · have e1 : ((str (fPrint f)).toList == (str l).toList) = false := by rw [str_list, str_list]; simpa using he
                have HR : Hid (fParse l = none) := hid (HE.out.trans (if_neg (by rw [← HFM.out]; exact fun h => he h.2)))
                clear he
                go_wp2
                go_ret2
                exact ⟨hb2, 0, by rw [HR.out]; rfl, fun v h => by rw [HR.out] at h; cases h⟩
      · go_enter Tryz.func56, Tryz.ntmps56
        go_wp2_with fail
        go_loop [9, 10] (fun nv iv => ∃ (n i : Nat) (a z : Int), nv = .int .i64 a ∧ iv = .int .i64 z ∧ Hid (a = (n : Int) ∧ z = (i : Int) ∧ i ≤ r.length ∧ n = val (r.take i) ∧ n < 10 ^ i)) (fun _ iv => r.length - (intOf iv).toNat)
        case atStart => exact ⟨0, 0, 0, 0, rfl, rfl, hid ⟨rfl, rfl, by omega, rfl, by decide⟩⟩
        case round =>
          obtain ⟨n, i, a, z, rfl, rfl, hh⟩ := hrel
          by_cases hi : i < r.length
          · obtain ⟨x, hx⟩ : ∃ x, r[i]? = some x := ⟨_, List.getElem?_eq_getElem hi⟩
            have hz : z = (i : Int) := hh.out.2.1
            have dz : decide (z < ((str r).size : Int)) = true := by rw [str_size]; simp; omega
            have hgx : ∀ wx, (Instr.index 9 (.string (str r)) (.int .i64 z)).run Tryz.prog wx = .ok (.int .u8 (x.toNat : Int)) wx := fun wx => by rw [hz]; exact str_at r i x hx .i64 wx
            have hx256 := x.toNat_lt
            by_cases hdig : 48 ≤ x.toNat ∧ x.toNat ≤ 57
            · have e1 : decide ((x.toNat : Int) < 48) = false := by simp; omega
              have e2 : decide ((57 : Int) < (x.toNat : Int)) = false := by simp; omega
              obtain ⟨y, hy⟩ : ∃ y, y = x.toNat - 48 := ⟨_, rfl⟩
              have e3 : ((x.toNat : Int) - 48) % 256 = (y : Int) := by omega
              have e3' : (x.toNat : Int) - 48 = (y : Int) := by omega
              have e4 : IntKind.u8.wrap ((x.toNat : Int) - 48) = (y : Int) := by rw [IntKind.wrap_u8]; omega
              have hp : (10 : Nat) ^ i ≤ 10 ^ 16 := Nat.pow_le_pow_right (by decide) (by have := HRR.out.2.2; omega)
              have e16 : (10 : Nat) ^ 16 = 10000000000000000 := by decide
              have hab : 0 ≤ a ∧ a < 10000000000000000 := by have := hh.out; omega
              have w1 : IntKind.i64.wrap (10 * a) = 10 * a := IntWalk.i64_in _ (by omega)
              have w2 : IntKind.i64.wrap (10 * a + (y : Int)) = 10 * a + (y : Int) := IntWalk.i64_in _ (by omega)
              have w1' : wrap64 (10 * a) = 10 * a := by unfold wrap64; omega
              have w2' : wrap64 (10 * a + (y : Int)) = 10 * a + (y : Int) := by unfold wrap64; omega
              have w3 : wrap64 (z + 1) = z + 1 := by have := HRR.out.2.2; unfold wrap64; omega
              have HN : Hid (10 * a + (y : Int) = ((10 * n + y : Nat) : Int) ∧ z + 1 = ((i + 1 : Nat) : Int) ∧ i + 1 ≤ r.length ∧ 10 * n + y = val (r.take (i + 1)) ∧ 10 * n + y < 10 ^ (i + 1)) := hid (by
                obtain ⟨k1, k2, k3, k4, k5⟩ := hh.out
                refine ⟨by omega, by omega, by omega, ?_, by rw [Nat.pow_succ]; omega⟩
                rw [val_take hx, ← k4, hy])
              have HZ : Hid (0 ≤ z ∧ z < (r.length : Int)) := hid (by omega)
              clear hh hi hx hz hdig hy hp e16 hab hx256
              go_wp2
              refine ⟨⟨10 * n + y, i + 1, 10 * a + (y : Int), z + 1, ?_, ?_, HN⟩, by have := HZ.out; simp [intOf]; omega⟩
              · first | rfl | (congr 1; omega)
              · first | rfl | rw [w3] | (congr 1; omega)
            · have HR : Hid (fParse l = none) := hid (dec_bad HA.out.1 HA.out.2.1 HA.out.2.2.1 HA.out.2.2.2.1 HA.out.2.2.2.2 (c := x) (by rw [HRR.out.1]; exact List.mem_of_getElem? hx) (by omega))
              by_cases hlo : x.toNat < 48
              · have e1 : decide ((x.toNat : Int) < 48) = true := by simp; omega
                clear hh hi hx hz hdig hlo
                go_wp2
                go_ret2
                exact ⟨Below.refl _ _, 0, by rw [HR.out]; rfl, fun v h => by rw [HR.out] at h; cases h⟩
              · have e1 : decide ((x.toNat : Int) < 48) = false := by simp; omega
                have e2 : decide ((57 : Int) < (x.toNat : Int)) = true := by simp; omega
                clear hh hi hx hz hdig hlo
                go_wp2
                go_ret2
                exact ⟨Below.refl _ _, 0, by rw [HR.out]; rfl, fun v h => by rw [HR.out] at h; cases h⟩
          · have dz : decide (z < ((str r).size : Int)) = false := by rw [str_size]; have := hh.out; simp; omega
            obtain ⟨m, hm⟩ : ∃ m : Int, m = decN l.dropLast := ⟨_, rfl⟩
            have hma : a = m := by
              obtain ⟨k1, k2, k3, k4, k5⟩ := hh.out
              rw [hm, HRR.out.2.1, k1, k4, List.take_of_length_le (by omega)]
            have hab : 0 ≤ a ∧ a < 100000000000000000 := by
              obtain ⟨k1, k2, k3, k4, k5⟩ := hh.out
              have hp : (10 : Nat) ^ i ≤ 10 ^ 17 := Nat.pow_le_pow_right (by decide) (by have := HRR.out.2.2; omega)
              have e17 : (10 : Nat) ^ 17 = 100000000000000000 := by decide
              omega
            have HMA := hid hma
            clear hma
            have HE := hid (dec_end HA.out.1 HA.out.2.1 HA.out.2.2.1 HA.out.2.2.2.1 HA.out.2.2.2.2 hm)
            clear hm hh hi hab
            obtain ⟨f, hf⟩ : ∃ f, f = fFrom m := ⟨_, rfl⟩
            have HF := hid hf
            clear hf
            go_wp2_with fail
            rw [HMA.out]
            refine (rFromInt_c m w).mono ?_
            rintro e w' ⟨rfl, rfl⟩
            rw [← HF.out]
            cases hr : inRange m
            · have HR : Hid (fParse l = none) := hid (HE.out.trans (if_neg (by rw [hr]; simp)))
              go_wp2
              go_ret2
              exact ⟨Below.refl _ _, 0, by rw [HR.out]; rfl, fun v h => by rw [HR.out] at h; cases h⟩
            · have hfm : f = fOfInt m := HF.out.trans (fFrom_is hr)
              have hfl : f < 18446744073709551616 := by rw [hfm]; exact (fOfInt_lt hr).1
              have HFM := hid hfm
              clear hfm
              go_wp2_with fail
              refine (rPrint_c f hfl w).mono ?_
              rintro e w2 ⟨rfl, hb2⟩
              by_cases he : fPrint f = l
              · have e1 : ((str (fPrint f)).toList == (str l).toList) = true := by rw [str_list, str_list]; simpa using he
                have HR : Hid (fParse l = some f) := hid (HE.out.trans (by rw [if_pos ⟨hr, by rw [← HFM.out]; exact he⟩, HFM.out]))
                clear he
                go_wp2
                go_ret2
                exact ⟨hb2, _, by rw [HR.out]; rfl, fun v h => by rw [HR.out] at h; injection h with h; rw [h]⟩
              · have e1 : ((str (fPrint f)).toList == (str l).toList) = false := by rw [str_list, str_list]; simpa using he
                have HR : Hid (fParse l = none) := hid (HE.out.trans (if_neg (by rw [← HFM.out]; exact fun h => he h.2)))
                clear he
                go_wp2
                go_ret2
                exact ⟨hb2, 0, by rw [HR.out]; rfl, fun v h => by rw [HR.out] at h; cases h⟩
  · have d3 : ((c.toNat : Int) != 46) = true := by
      simp
      intro h
      exact hdot (UInt8.toNat_inj.1 (by rw [show (46 : UInt8).toNat = 46 from rfl]; omega))
    have HR : Hid (fParse l = none) := hid (dec_short HA.out.1 HA.out.2.1 HA.out.2.2.1 HA.out.2.2.2.1 HA.out.2.2.2.2 (.inr (.inr (by rw [hlast]; intro h; injection h with h; exact hdot h))))
    clear hshort hlong hn1 hN1 hc hlast hdot
    rcases first18 with d0 | ⟨d0, hsl2, d02⟩
    · go_enter Tryz.func56, Tryz.ntmps56
      go_wp2
      go_ret2
      exact ⟨Below.refl _ _, 0, by rw [HR.out]; rfl, fun v h => by rw [HR.out] at h; cases h⟩
    · go_enter Tryz.func56, Tryz.ntmps56
      go_wp2
      go_ret2
      exact ⟨Below.refl _ _, 0, by rw [HR.out]; rfl, fun v h => by rw [HR.out] at h; cases h⟩

theorem rParse_c (l : List UInt8) (hlim : l.length ≤ 281474976710656) (w : World) :
    Calls Tryz.prog 56 #[.string (str l)] w (RP l w) := by
  have g1 : ∀ t : List UInt8, ((str l).toList == t) = decide (l = t) := fun t => by rw [str_list, Bool.eq_iff_iff]; simp
  by_cases h1 : l = tNan
  · have q1 : decide (l = [110, 97, 110]) = true := decide_eq_true (show l = [110, 97, 110] from h1)
    have HR : Hid (fParse l = some 9221120237041090560) := hid (by rw [h1]; exact p_nan)
    clear h1
    go_enter Tryz.func56, Tryz.ntmps56
    go_wp2
    go_ret2
    exact ⟨Below.refl _ _, 9221120237041090560, by rw [HR.out]; rfl, fun v h => by rw [HR.out] at h; injection h with h; rw [← h]; rfl⟩
  have q1 : decide (l = [110, 97, 110]) = false := decide_eq_false (show ¬ l = [110, 97, 110] from h1)
  by_cases h2 : l = tInf
  · have q2 : decide (l = [105, 110, 102]) = true := decide_eq_true (show l = [105, 110, 102] from h2)
    have HR : Hid (fParse l = some 9218868437227405312) := hid (by rw [h2]; exact p_inf)
    clear h1 h2
    go_enter Tryz.func56, Tryz.ntmps56
    go_wp2
    go_ret2
    exact ⟨Below.refl _ _, 9218868437227405312, by rw [HR.out]; rfl, fun v h => by rw [HR.out] at h; injection h with h; rw [← h]; rfl⟩
  have q2 : decide (l = [105, 110, 102]) = false := decide_eq_false (show ¬ l = [105, 110, 102] from h2)
  by_cases h3 : l = tNinf
  · have q3 : decide (l = [45, 105, 110, 102]) = true := decide_eq_true (show l = [45, 105, 110, 102] from h3)
    have HR : Hid (fParse l = some 18442240474082181120) := hid (by rw [h3]; exact p_ninf)
    clear h1 h2 h3
    go_enter Tryz.func56, Tryz.ntmps56
    go_wp2
    go_ret2
    exact ⟨Below.refl _ _, 18442240474082181120, by rw [HR.out]; rfl, fun v h => by rw [HR.out] at h; injection h with h; rw [← h]; rfl⟩
  have q3 : decide (l = [45, 105, 110, 102]) = false := decide_eq_false (show ¬ l = [45, 105, 110, 102] from h3)
  by_cases h4 : l = tNz
  · have q4 : decide (l = [45, 48, 46]) = true := decide_eq_true (show l = [45, 48, 46] from h4)
    have HR : Hid (fParse l = some 9223372036854775808) := hid (by rw [h4]; exact p_nz2)
    clear h1 h2 h3 h4
    go_enter Tryz.func56, Tryz.ntmps56
    go_wp2
    go_ret2
    exact ⟨Below.refl _ _, 9223372036854775808, by rw [HR.out]; rfl, fun v h => by rw [HR.out] at h; injection h with h; rw [← h]; rfl⟩
  by_cases h5 : l.length = 18 ∧ l.take 2 = [48, 120]
  · obtain ⟨r, hr⟩ : ∃ r, l = 48 :: 120 :: r := ⟨l.drop 2, by
      have h := List.take_append_drop 2 l
      rw [h5.2] at h
      exact h.symm⟩
    subst hr
    exact rParseHex_c r (by have := h5.1; simp at this; omega) w
  · exact rParseDec_c l hlim w h1 h2 h3 h4 h5
end Go.Proofs.YtomgpkklbhdgiaaGreatDoor
