/- What runs.readRun and runs.Get return. Nothing is assumed. -/
import Derived.Test.YtolaojkcofbkhaaRuR
import Derived.Test.YtolaojkcofbkhaaPkW2
namespace Go.Proofs.Ytolaojkcofbkhaa
open Go.RowKit

theorem ru_below {w w' : World} {g : Nat} (h : w.grownBy w' (some g)) (hg : g < w.heap.size) : Below g w w' := grown_below h (Nat.le_of_lt hg) fun k hk => by injection hk with hk; omega
/-- What readRun answers. -/
def RRun (w : World) (lo g : Nat) (l : List Int) (n : Nat) (rest : List UInt8) (e : Ending) (w' : World) : Prop :=
  (¬ runK l n rest ∧ e = .returned (.tuple #[.slice none 0 0, .bool false]) ∧ Below g w w') ∨
  (runK l n rest ∧ ∃ B d, e = .returned (.tuple #[.slice B (runL l rest).length d, .bool true]) ∧ Rd w' lo g (runR rest) ∧ w'.ownsRow (g + 1) 3 1 (.slice B (runL l rest).length d) (runL l rest).length (ics (runL l rest)) ∧ Below g w w')
set_option maxRecDepth 100000 in
set_option maxHeartbeats 16000000 in
theorem readRun_c {w : World} {lo g d : Nat} {rest : List UInt8} {B : Option Addr} {l : List Int} {n : Nat} (h : Rd w lo g rest) (ho : w.ownsRow (g + 1) 3 1 (.slice B l.length d) l.length (ics l)) (hl : l.length ≤ n) (hn : n ≤ 256) :
    Calls Try.prog 17 #[.pointer (some ⟨g, 0, none⟩), .slice B l.length d, .int .i64 (n : Int)] w (RRun w lo g l n rest) := by
  have HD := hid h
  have HO := hid ho
  have HLN := hid hl
  have HN := hid hn
  clear h ho hl hn
  go_enter Try.func17, Try.ntmps17
  go_wp2_with fail
  rcases Nat.eq_zero_or_pos (rd rest).2 with hz | hz
  · refine (rnum_none w lo g rest HD.out hz).mono ?_
    rintro e w1 ⟨rfl, -, hgr⟩
    have HB1 := hid (ru_below hgr HD.out.lt)
    have HNO : Hid (¬ runK l n rest) := hid (fun hk => hk.1 hz)
    clear hgr hz
    go_wp2
    go_ret2
    exact .inl ⟨HNO.out, rfl, HB1.out⟩
  have hnum := rnum_some w lo g rest HD.out hz
  have HZ := hid hz
  obtain ⟨x, hx⟩ : ∃ x, unfold_ (rd rest).1 = x := ⟨_, rfl⟩
  obtain ⟨r2, hr2⟩ : ∃ r2, rest.drop (rd rest).2 = r2 := ⟨_, rfl⟩
  rw [hx, hr2] at hnum
  have HXE := hid hx
  have HR2 := hid hr2
  clear hx hr2 hz
  refine hnum.mono ?_
  rintro e w1 ⟨rfl, hd1, hgr1⟩
  have HB1 := hid (ru_below hgr1 HD.out.lt)
  have HO1 := hid (own_keep HO.out fun b hb => hgr1.block b (own_lt HO.out b hb) (fun e => by injection e with e; have := own_ge HO.out b hb; omega))
  have HD1 := hid hd1
  clear hnum hd1 hgr1 HD HO
  rcases Nat.eq_zero_or_pos l.length with h0 | h0
  · have e0 : decide ((0 : Int) < (l.length : Int)) = false := decide_eq_false (by omega)
    have e1 : decide (0 < l.length) = false := decide_eq_false (by omega)
    have HLAST : Hid (l.getLast? ≠ some x) := hid (by rw [List.eq_nil_of_length_eq_zero h0]; exact fun h => by cases h)
    clear h0
    go_wp2_with fail
    rcases Nat.eq_zero_or_pos (rd r2).2 with hz2 | hz2
    · refine (rnat_none w1 lo g r2 HD1.out hz2).mono ?_
      rintro e w2 ⟨rfl, -, hgr2⟩
      have HB2 : Hid (Below g w w2) := hid (HB1.out.trans (ru_below hgr2 HD1.out.lt))
      have HNO : Hid (¬ runK l n rest) := hid (fun hk => by have := hk.2.2.1; rw [HR2.out] at this; exact this hz2)
      clear hgr2 hz2
      go_wp2
      go_ret2
      exact .inl ⟨HNO.out, rfl, HB2.out⟩
    have hnat := rnat_some w1 lo g r2 HD1.out hz2
    have HZ2 := hid hz2
    have HKL := hid (rd_lt r2)
    obtain ⟨k, hk⟩ : ∃ k, (rd r2).1 = k := ⟨_, rfl⟩
    rw [hk] at hnat HKL
    have HKE := hid hk
    clear hk hz2
    refine hnat.mono ?_
    rintro e w2 ⟨rfl, hd2, hgr2⟩
    have HB2 : Hid (Below g w w2) := hid (HB1.out.trans (ru_below hgr2 HD1.out.lt))
    have HO2 := hid (own_keep HO1.out fun b hb => hgr2.block b (own_lt HO1.out b hb) (fun e => by injection e with e; have := own_ge HO1.out b hb; omega))
    have HD2 := hid hd2
    clear hnat hd2 hgr2 HD1 HO1 HB1
    rcases Nat.eq_zero_or_pos k with hk0 | hk0
    · subst hk0
      have HNO : Hid (¬ runK l n rest) := hid (fun hk => by have := hk.2.2.2.1; rw [HR2.out, HKE.out] at this; exact absurd this (Nat.lt_irrefl 0))
      go_wp2
      go_ret2
      exact .inl ⟨HNO.out, rfl, HB2.out⟩
    have k0 : ((k : Int) == 0) = false := by simp; omega
    have k1 : ¬ (k : Int) = 0 := by omega
    have k2 : ¬ k = 0 := by omega
    have hq : n - l.length ≤ 256 := by have := HN.out; omega
    obtain ⟨q, hqe⟩ : ∃ q, q = n - l.length := ⟨_, rfl⟩
    rw [← hqe] at hq
    have s1 : wrap64 ((n : Int) - (l.length : Int)) = (q : Int) := by have := HN.out; have := HLN.out; unfold wrap64; omega
    have s2 : IntKind.u64.wrap (q : Int) = (q : Int) := IntWalk.u64_in _ (by omega)
    have HQ := hid hqe
    have HQ2 := hid hq
    have HK0 := hid hk0
    clear hqe hq hk0
    rcases Nat.lt_or_ge q k with hbig | hsm
    · have s3 : decide ((q : Int) < (k : Int)) = true := by simp; omega
      have s4 : decide (q < k) = true := decide_eq_true hbig
      have HNO : Hid (¬ runK l n rest) := hid (fun hk => by have := hk.2.2.2.2; rw [HR2.out, HKE.out, ← HQ.out] at this; omega)
      clear hbig
      go_wp2
      go_ret2
      exact .inl ⟨HNO.out, rfl, HB2.out⟩
    have s3 : decide ((q : Int) < (k : Int)) = false := by simp; omega
    have s4 : decide (q < k) = false := by simp; omega
    have HSM := hid hsm
    have HYES : Hid (runK l n rest) := hid ⟨by have := HZ.out; omega, by rw [HXE.out]; exact HLAST.out, by rw [HR2.out]; have := HZ2.out; omega, by rw [HR2.out, HKE.out]; exact HK0.out, by rw [HR2.out, HKE.out, ← HQ.out]; exact HSM.out⟩
    clear hsm
    go_wp2_with fail
    clear s1 s2 s3 s4 k0 k1 k2
    have HRL : Hid (runL l rest = l ++ List.replicate k x) := hid (by unfold runL; rw [HR2.out, HKE.out, HXE.out])
    have HRR : Hid (runR rest = r2.drop (rd r2).2) := hid (by unfold runR; rw [HR2.out])
    obtain ⟨m, hm⟩ : ∃ m, m = l.length := ⟨_, rfl⟩
    have HM : Hid (m = l.length ∧ m ≤ 256) := hid ⟨hm, by have := HLN.out; have := HN.out; omega⟩
    rw [← hm] at HO2 ⊢
    clear hm
    go_loopg [1, 54] k (fun kk lv iv wr => ∃ (j : Nat) (B' : Option Addr) (d' : Nat), lv = .slice B' (m + j) d' ∧ iv = .int .u64 (j : Int) ∧ Hid (kk = k - j) ∧ Hid (j ≤ k) ∧ Hid (wr.ownsRow (g + 1) 3 1 (.slice B' (m + j) d') (m + j) (ics (l ++ List.replicate j x))) ∧ Hid (Below (g + 1) w2 wr))
    case atStart => exact ⟨0, _, d, rfl, rfl, hid rfl, hid (Nat.zero_le _), hid (by rw [List.replicate_zero, List.append_nil]; exact HO2.out), hid (Below.refl _ _)⟩
    case round =>
    obtain ⟨j, B', d', rfl, rfl, hgk, hj, hO, hB⟩ := hrel
    rename World => wr
    rcases Nat.lt_or_ge j k with hlt | hge
    · have j2 : (j : Int) < (k : Int) := by omega
      have j3 : decide ((j : Int) < (k : Int)) = true := by simpa using hlt
      have j4 : decide (j < k) = true := decide_eq_true hlt
      have HJ := hid hlt
      have wj : IntKind.u64.wrap ((j : Int) + 1) = ((j + 1 : Nat) : Int) := by have := HKL.out; rw [IntWalk.u64_in _ (by omega)]; omega
      have HCAP : Hid (m + j + 1 ≤ 1000) := hid (by have := HM.out.2; have := HQ2.out; have := HSM.out; omega)
      have hsz : g + 1 ≤ wr.heap.size := by have := hB.out.size; have := HD2.out.lt; omega
      have HSZ := hid hsz
      clear hlt hsz
      go_wp2_with (at_builtin; refine wpList_app1 _ rfl _ _ 22 _ rfl (g + 1) 3 (.int .i64 0) 8 Try.underlying22 Try.infoI_ rfl _ _ _ _ rfl hO.out _ rfl rfl (by have := HCAP.out; omega) (by have := HCAP.out; unfold maxLen; omega) HSZ.out ?_)
      intro A5 c5 w5 hc5 ho5 hg5 hb5 hz5
      have HO5 : Hid (w5.ownsRow (g + 1) 3 1 (.slice A5 (m + (j + 1)) c5) (m + (j + 1)) (ics (l ++ List.replicate (j + 1) x))) := hid (by
        rw [List.replicate_succ', ← List.append_assoc, ics_app]
        exact ho5)
      have HB5 := hid (hB.out.trans hb5)
      clear hc5 ho5 hg5 hb5 hz5 hO hB
      go_wp2_with fail
      go_roundg (k - (j + 1))
      case measure => exact meas_j hgk.out HJ.out
      case rel => exact ⟨j + 1, A5, c5, rfl, by first | rfl | rw [wj], hid rfl, hid HJ.out, HO5, HB5⟩
    · have hjk : j = k := by have := hj.out; omega
      subst hjk
      have j2 : ¬ (j : Int) < (j : Int) := by omega
      have HLEN : Hid ((runL l rest).length = m + j) := hid (by rw [HRL.out, List.length_append, List.length_replicate, HM.out.1])
      have HDF := hid (HD2.out.keep fun b _ h2 => hB.out.block b (by omega))
      clear hge hj hgk
      go_wp2
      go_ret2
      refine .inr ⟨HYES.out, B', d', ?_, ?_, ?_, HB2.out.trans (hB.out.mono (Nat.le_succ g))⟩
      · rw [HLEN.out]; rfl
      · rw [HRR.out]; exact HDF.out
      · rw [HLEN.out, HRL.out]; exact hO.out
  have e0 : decide ((0 : Int) < (l.length : Int)) = true := decide_eq_true (by omega)
  have e1 : decide (0 < l.length) = true := decide_eq_true h0
  have e2 : wrap64 ((l.length : Int) - 1) = ((l.length - 1 : Nat) : Int) := by have := HLN.out; have := HN.out; unfold wrap64; omega
  obtain ⟨gb, ob, rfl, _, _, hcell⟩ := lst_i (Lst.own HO1.out) (j := l.length - 1) (by omega)
  have HLG : Hid (l.getLast? = some (l[l.length - 1]'(by omega))) := hid (by rw [List.getLast?_eq_getElem?, List.getElem?_eq_getElem])
  obtain ⟨y, hy⟩ : ∃ y, l[l.length - 1]'(by omega) = y := ⟨_, rfl⟩
  rw [hy] at hcell HLG
  obtain ⟨p, hp⟩ : ∃ p, l.length - 1 = p := ⟨_, rfl⟩
  rw [hp] at hcell e2
  have p1 : (0 : Int) ≤ (p : Int) := by omega
  have p2 : (p : Int) < (l.length : Int) := by omega
  clear hy hp h0
  by_cases hxy : y = x
  · have z : (y == x) = true := by rw [hxy]; simp
    have HNO : Hid (¬ runK l n rest) := hid (fun hk => by have := hk.2.1; rw [HXE.out, HLG.out, hxy] at this; exact this rfl)
    subst hxy
    go_wp2
    go_ret2
    exact .inl ⟨HNO.out, rfl, HB1.out⟩
  have z : (y == x) = false := beq_eq_false_iff_ne.2 hxy
  have HLAST : Hid (l.getLast? ≠ some x) := hid (by rw [HLG.out]; exact fun h => hxy (by injection h))
  clear hxy
  go_wp2_with fail
  rcases Nat.eq_zero_or_pos (rd r2).2 with hz2 | hz2
  · refine (rnat_none w1 lo g r2 HD1.out hz2).mono ?_
    rintro e w2 ⟨rfl, -, hgr2⟩
    have HB2 : Hid (Below g w w2) := hid (HB1.out.trans (ru_below hgr2 HD1.out.lt))
    have HNO : Hid (¬ runK l n rest) := hid (fun hk => by have := hk.2.2.1; rw [HR2.out] at this; exact this hz2)
    clear hgr2 hz2
    go_wp2
    go_ret2
    exact .inl ⟨HNO.out, rfl, HB2.out⟩
  have hnat := rnat_some w1 lo g r2 HD1.out hz2
  have HZ2 := hid hz2
  have HKL := hid (rd_lt r2)
  obtain ⟨k, hk⟩ : ∃ k, (rd r2).1 = k := ⟨_, rfl⟩
  rw [hk] at hnat HKL
  have HKE := hid hk
  clear hk hz2
  refine hnat.mono ?_
  rintro e w2 ⟨rfl, hd2, hgr2⟩
  have HB2 : Hid (Below g w w2) := hid (HB1.out.trans (ru_below hgr2 HD1.out.lt))
  have HO2 := hid (own_keep HO1.out fun b hb => hgr2.block b (own_lt HO1.out b hb) (fun e => by injection e with e; have := own_ge HO1.out b hb; omega))
  have HD2 := hid hd2
  clear hnat hd2 hgr2 HD1 HO1 HB1
  rcases Nat.eq_zero_or_pos k with hk0 | hk0
  · subst hk0
    have HNO : Hid (¬ runK l n rest) := hid (fun hk => by have := hk.2.2.2.1; rw [HR2.out, HKE.out] at this; exact absurd this (Nat.lt_irrefl 0))
    go_wp2
    go_ret2
    exact .inl ⟨HNO.out, rfl, HB2.out⟩
  have k0 : ((k : Int) == 0) = false := by simp; omega
  have k1 : ¬ (k : Int) = 0 := by omega
  have k2 : ¬ k = 0 := by omega
  have hq : n - l.length ≤ 256 := by have := HN.out; omega
  obtain ⟨q, hqe⟩ : ∃ q, q = n - l.length := ⟨_, rfl⟩
  rw [← hqe] at hq
  have s1 : wrap64 ((n : Int) - (l.length : Int)) = (q : Int) := by have := HN.out; have := HLN.out; unfold wrap64; omega
  have s2 : IntKind.u64.wrap (q : Int) = (q : Int) := IntWalk.u64_in _ (by omega)
  have HQ := hid hqe
  have HQ2 := hid hq
  have HK0 := hid hk0
  clear hqe hq hk0
  rcases Nat.lt_or_ge q k with hbig | hsm
  · have s3 : decide ((q : Int) < (k : Int)) = true := by simp; omega
    have s4 : decide (q < k) = true := decide_eq_true hbig
    have HNO : Hid (¬ runK l n rest) := hid (fun hk => by have := hk.2.2.2.2; rw [HR2.out, HKE.out, ← HQ.out] at this; omega)
    clear hbig
    go_wp2
    go_ret2
    exact .inl ⟨HNO.out, rfl, HB2.out⟩
  have s3 : decide ((q : Int) < (k : Int)) = false := by simp; omega
  have s4 : decide (q < k) = false := by simp; omega
  have HSM := hid hsm
  have HYES : Hid (runK l n rest) := hid ⟨by have := HZ.out; omega, by rw [HXE.out]; exact HLAST.out, by rw [HR2.out]; have := HZ2.out; omega, by rw [HR2.out, HKE.out]; exact HK0.out, by rw [HR2.out, HKE.out, ← HQ.out]; exact HSM.out⟩
  clear hsm
  go_wp2_with fail
  clear s1 s2 s3 s4 k0 k1 k2
  have HRL : Hid (runL l rest = l ++ List.replicate k x) := hid (by unfold runL; rw [HR2.out, HKE.out, HXE.out])
  have HRR : Hid (runR rest = r2.drop (rd r2).2) := hid (by unfold runR; rw [HR2.out])
  obtain ⟨m, hm⟩ : ∃ m, m = l.length := ⟨_, rfl⟩
  have HM : Hid (m = l.length ∧ m ≤ 256) := hid ⟨hm, by have := HLN.out; have := HN.out; omega⟩
  rw [← hm] at HO2 ⊢
  clear hm
  go_loopg [1, 54] k (fun kk lv iv wr => ∃ (j : Nat) (B' : Option Addr) (d' : Nat), lv = .slice B' (m + j) d' ∧ iv = .int .u64 (j : Int) ∧ Hid (kk = k - j) ∧ Hid (j ≤ k) ∧ Hid (wr.ownsRow (g + 1) 3 1 (.slice B' (m + j) d') (m + j) (ics (l ++ List.replicate j x))) ∧ Hid (Below (g + 1) w2 wr))
  case atStart => exact ⟨0, _, d, rfl, rfl, hid rfl, hid (Nat.zero_le _), hid (by rw [List.replicate_zero, List.append_nil]; exact HO2.out), hid (Below.refl _ _)⟩
  case round =>
  obtain ⟨j, B', d', rfl, rfl, hgk, hj, hO, hB⟩ := hrel
  rename World => wr
  rcases Nat.lt_or_ge j k with hlt | hge
  · have j2 : (j : Int) < (k : Int) := by omega
    have j3 : decide ((j : Int) < (k : Int)) = true := by simpa using hlt
    have j4 : decide (j < k) = true := decide_eq_true hlt
    have HJ := hid hlt
    have wj : IntKind.u64.wrap ((j : Int) + 1) = ((j + 1 : Nat) : Int) := by have := HKL.out; rw [IntWalk.u64_in _ (by omega)]; omega
    have HCAP : Hid (m + j + 1 ≤ 1000) := hid (by have := HM.out.2; have := HQ2.out; have := HSM.out; omega)
    have hsz : g + 1 ≤ wr.heap.size := by have := hB.out.size; have := HD2.out.lt; omega
    have HSZ := hid hsz
    clear hlt hsz
    go_wp2_with (at_builtin; refine wpList_app1 _ rfl _ _ 22 _ rfl (g + 1) 3 (.int .i64 0) 8 Try.underlying22 Try.infoI_ rfl _ _ _ _ rfl hO.out _ rfl rfl (by have := HCAP.out; omega) (by have := HCAP.out; unfold maxLen; omega) HSZ.out ?_)
    intro A5 c5 w5 hc5 ho5 hg5 hb5 hz5
    have HO5 : Hid (w5.ownsRow (g + 1) 3 1 (.slice A5 (m + (j + 1)) c5) (m + (j + 1)) (ics (l ++ List.replicate (j + 1) x))) := hid (by
      rw [List.replicate_succ', ← List.append_assoc, ics_app]
      exact ho5)
    have HB5 := hid (hB.out.trans hb5)
    clear hc5 ho5 hg5 hb5 hz5 hO hB
    go_wp2_with fail
    go_roundg (k - (j + 1))
    case measure => exact meas_j hgk.out HJ.out
    case rel => exact ⟨j + 1, A5, c5, rfl, by first | rfl | rw [wj], hid rfl, hid HJ.out, HO5, HB5⟩
  · have hjk : j = k := by have := hj.out; omega
    subst hjk
    have j2 : ¬ (j : Int) < (j : Int) := by omega
    have HLEN : Hid ((runL l rest).length = m + j) := hid (by rw [HRL.out, List.length_append, List.length_replicate, HM.out.1])
    have HDF := hid (HD2.out.keep fun b _ h2 => hB.out.block b (by omega))
    clear hge hj hgk
    go_wp2
    go_ret2
    refine .inr ⟨HYES.out, B', d', ?_, ?_, ?_, HB2.out.trans (hB.out.mono (Nat.le_succ g))⟩
    · rw [HLEN.out]; rfl
    · rw [HRR.out]; exact HDF.out
    · rw [HLEN.out, HRL.out]; exact hO.out
theorem own_cut0 {w w1 : World} {m : Nat} {e : TypeId} {z : Value} (hblk : w1.heap[w.heap.size]? = some (.cells (zeros m z).toArray e (0, 0))) (hm : m ≤ maxLen) {b : Nat} (hb : b ≤ w.heap.size) :
    w1.ownsRow b e 1 (.slice (some ⟨w.heap.size, 0, none⟩) 0 m) 0 [] :=
  ⟨rfl, .inr ⟨_, _, _, rfl, hb, hblk, Nat.zero_le _, hm, by simp [zeros_len], by rw [Nat.zero_mul]; rfl⟩⟩
/-- What Get answers. -/
def RGet (w : World) (b : List UInt8) (n : Int) (e : Ending) (w' : World) : Prop :=
  ∃ (l : List Int) (ok : Bool) (A : Option Addr) (c : Nat), e = .returned (.tuple #[.slice A l.length c, .bool ok]) ∧ RuG b n l ok ∧ Lst w' 0 w'.heap.size A l.length (ics l) ∧ l.length ≤ c ∧ Below w.heap.size w w'
theorem RGet.no {w w' : World} {b : List UInt8} {n : Int} (h : RuG b n [] false) (hb : Below w.heap.size w w') : RGet w b n (.returned (.tuple #[.slice none 0 0, .bool false])) w' :=
  ⟨[], false, none, 0, rfl, h, ⟨rfl, fun h => absurd h (by decide)⟩, Nat.le_refl _, hb⟩
set_option maxRecDepth 100000 in
set_option maxHeartbeats 16000000 in
theorem rget_c {w : World} {m c : Nat} {A : Option Addr} {b : List UInt8} (h : Bts w 0 w.heap.size A m b) (hm : m ≤ 1000000) (n : Int) (hn : -9223372036854775808 ≤ n ∧ n ≤ 9223372036854775807) :
    Calls Try.prog 8 #[.slice A m c, .int .i64 n] w (RGet w b n) := by
  have HR := hid h
  have HM := hid hm
  clear h hm
  by_cases hout : n < 0 ∨ 256 < n
  · have HG := hid (RuG.out (b := b) hout)
    rcases Int.lt_or_le n 0 with hneg | hpos
    · have e1 : decide (n < 0) = true := decide_eq_true hneg
      clear hn hout
      go_enter Try.func8, Try.ntmps8
      go_wp2
      go_ret2
      exact RGet.no HG.out (Below.refl _ _)
    · have e1 : decide (n < 0) = false := decide_eq_false (by omega)
      have e2 : decide (256 < n) = true := decide_eq_true (by omega)
      clear hn hout
      go_enter Try.func8, Try.ntmps8
      go_wp2
      go_ret2
      exact RGet.no HG.out (Below.refl _ _)
  obtain ⟨N, rfl⟩ : ∃ N : Nat, n = (N : Int) := ⟨n.toNat, by omega⟩
  have HN : Hid (N ≤ 256) := hid (by omega)
  have e1 : decide ((N : Int) < 0) = false := by simp
  have e2 : decide ((256 : Int) < (N : Int)) = false := decide_eq_false (by omega)
  have e3 : decide (256 < N) = false := decide_eq_false (by omega)
  have hNi : ((N : Int)) ≤ 256 := by omega
  have HNI := hid hNi
  clear hn hout hNi
  go_enter Try.func8, Try.ntmps8
  go_wp2_with fail
  refine (open_c A m c b w HR.out (by have := HM.out; omega)).mono ?_
  rintro e w1 ⟨g, rfl, hd1, hs1, hb1⟩
  have HD1 := hid hd1
  have HS1 := hid hs1
  have HB1 := hid hb1
  have HGW : Hid (w.heap.size ≤ g) := hid (by obtain ⟨_, _, _, _, _, h3, _⟩ := hd1; exact h3)
  clear hd1 hs1 hb1 e1 e2 e3
  go_wp2_with fail
  rcases Nat.eq_zero_or_pos (rd b).2 with hz | hz
  · refine (rnat_none w1 _ g b HD1.out hz).mono ?_
    rintro e w2 ⟨rfl, -, hgr⟩
    have HB2 := hid (HB1.out.trans ((ru_below hgr HD1.out.lt).mono HGW.out))
    have HNO := hid (RuI.none_ (n := (N : Int)) HNI.out hz)
    clear hgr hz
    go_wp2
    go_ret2
    exact RGet.no HNO.out HB2.out
  have hnat := rnat_some w1 _ g b HD1.out hz
  have HST := hid (RuS.start (b := b) (by omega))
  have HCL := hid (rd_lt b)
  obtain ⟨cnt, hcnt⟩ : ∃ cnt, (rd b).1 = cnt := ⟨_, rfl⟩
  obtain ⟨r0, hr0⟩ : ∃ r0, b.drop (rd b).2 = r0 := ⟨_, rfl⟩
  rw [hcnt, hr0] at hnat HST
  rw [hcnt] at HCL
  clear hcnt hr0 hz
  refine hnat.mono ?_
  rintro e w2 ⟨rfl, hd2, hgr2⟩
  have HB2 := hid (HB1.out.trans ((ru_below hgr2 HD1.out.lt).mono HGW.out))
  have HD2 := hid hd2
  have HS2 : Hid (g < w2.heap.size) := hid hd2.lt
  have nw : (N : Int) ≤ 9223372036854775807 := by have := HN.out; omega
  clear hnat hd2 hgr2 HD1 HS1 HB1
  go_wp2_with (at_make; refine wpList_make_new _ rfl _ _ 22 rfl 3 (.int .i64 0) 8 Try.underlying22 Try.infoI_ rfl _ _ 0 N rfl rfl rfl rfl (Nat.zero_le _) (by have := HN.out; omega) (by have := HN.out; omega) ?_)
  intro w3 hblk hgr hlt
  have HB23 : Hid (Below w2.heap.size w2 w3) := hid (grown_below hgr (Nat.le_refl _) (fun k h => by cases h))
  have HO3 : Hid (w3.ownsRow (g + 1) 3 1 (.slice (some ⟨w2.heap.size, 0, none⟩) 0 N) 0 []) := hid (own_cut0 hblk.out (by have := HN.out; unfold maxLen; omega) HS2.out)
  have HD3 := hid (HD2.out.keep fun k _ h => HB23.out.block k (by have := HS2.out; omega))
  have HB3 := hid (HB2.out.trans (HB23.out.mono HB2.out.size))
  clear hblk hgr hlt nw HD2
  go_wp2_with fail
  go_loopg [9, 28] cnt (fun kk lv iv wr => ∃ (r : List (Int × Nat)) (rest : List UInt8) (B : Option Addr) (d : Nat), lv = .slice B (xpO r).length d ∧ iv = .int .u64 ((r.length : Nat) : Int) ∧ Hid (kk = cnt - r.length) ∧ Hid (r.length ≤ cnt) ∧ Hid (RuS b cnt r rest) ∧ Hid ((xpO r).length ≤ N) ∧ Hid (Rd wr w.heap.size g rest) ∧ Hid (wr.ownsRow (g + 1) 3 1 (.slice B (xpO r).length d) (xpO r).length (ics (xpO r))) ∧ Hid (Below w.heap.size w wr))
  case atStart => exact ⟨[], r0, some ⟨w2.heap.size, 0, none⟩, N, rfl, rfl, hid rfl, hid (Nat.zero_le _), HST, hid (Nat.zero_le _), HD3, HO3, HB3⟩
  case round =>
    obtain ⟨r, rest, B, d, rfl, rfl, hgk, hj, hS, hxn, hD, hO, hB⟩ := hrel
    rename World => wr
    obtain ⟨j, hje⟩ : ∃ j, j = r.length := ⟨_, rfl⟩
    rw [← hje] at hgk hj ⊢
    rcases Nat.lt_or_ge j cnt with hlt | hge
    · have j2 : (j : Int) < (cnt : Int) := by omega
      have j3 : decide ((j : Int) < (cnt : Int)) = true := by simpa using hlt
      have j4 : decide (j < cnt) = true := decide_eq_true hlt
      have HJ := hid hlt
      have HJE := hid hje
      have wj : IntKind.u64.wrap ((j : Int) + 1) = ((j + 1 : Nat) : Int) := by have := HCL.out; rw [IntWalk.u64_in _ (by omega)]; omega
      have hrun := readRun_c hD.out hO.out hxn.out HN.out
      have HNO := fun hk => RuS.no hS.out HN.out (by rw [← HJE.out]; exact HJ.out) (rest := rest) hk
      have HYS := fun hk => RuS.next (n := N) hS.out hk
      have HNO := hid HNO
      have HYS := hid HYS
      obtain ⟨L, hL⟩ : ∃ L, xpO r = L := ⟨_, rfl⟩
      rw [hL] at hrun HNO HYS hxn hO ⊢
      clear hlt hje hS hL
      go_wp2_with fail
      refine hrun.mono ?_
      rintro e w4 (⟨hk, rfl, hb4⟩ | ⟨hk, B4, d4, rfl, hd4, ho4, hb4⟩)
      · have HF := hid (HNO.out hk)
        have HB4 := hid (hB.out.trans (hb4.mono HGW.out))
        clear hrun hb4 hk
        go_wp2
        go_ret2
        exact RGet.no HF.out HB4.out
      · obtain ⟨p, hS4, hx4⟩ := HYS.out hk
        have HS4 := hid hS4
        have HX4 := hid hx4
        have HB4 := hid (hB.out.trans (hb4.mono HGW.out))
        have HD4 := hid hd4
        have HO4 := hid ho4
        have HLEN : Hid ((runL L rest).length ≤ N) := hid (by
          have h5 := hk.2.2.2.2
          unfold runL
          rw [List.length_append, List.length_replicate]
          have := hxn.out
          omega)
        have HPL : Hid ((r ++ [p]).length = j + 1) := hid (by rw [List.length_append, ← HJE.out]; rfl)
        clear hrun hb4 hk hd4 ho4 hS4 hx4 hD hO hB
        go_wp2_with fail
        go_roundg (cnt - (j + 1))
        case measure => exact meas_j hgk.out HJ.out
        case rel => exact ⟨r ++ [p], runR rest, B4, d4, by rw [HX4.out], by rw [HPL.out]; first | rfl | rw [wj], hid (by rw [HPL.out]), hid (by rw [HPL.out]; exact HJ.out), HS4, hid (by rw [HX4.out]; exact HLEN.out), HD4, hid (by rw [HX4.out]; exact HO4.out), HB4⟩
    · have hjc : j = cnt := by have := hj.out; omega
      subst hjc
      have j2 : ¬ (j : Int) < (j : Int) := by omega
      have HJE := hid hje
      have HEND := hid (fun (mm : List Int) (hm : RuM b (N : Int) mm) => RuS.end_ hS.out HNI.out HJE.out.symm hm)
      have HXO : Hid (Lst wr 0 wr.heap.size B (xpO r).length (ics (xpO r))) := hid ((Lst.own hO.out).wide (Nat.zero_le _) (Nat.le_refl _))
      have HCAP := hid (own_nc hO.out)
      have hdone := done_good wr _ g rest hD.out
      by_cases hlen : (xpO r).length = N
      · have e4 : (((xpO r).length : Int) != (N : Int)) = false := by rw [hlen]; simp
        have HLE := hid hlen
        rw [hlen]
        cases rest with
        | nil =>
          have HY := hid (RuS.yes hS.out (by omega) HNI.out HJE.out.symm (by rw [hlen]))
          clear hge hj hgk e4 hlen hje
          go_wp2_with fail
          refine hdone.mono ?_
          rintro e w4 ⟨rfl, rfl⟩
          go_wp2
          go_ret2
          exact ⟨xpO r, true, B, d, by rw [HLE.out]; rfl, HY.out, HXO.out, HCAP.out, hB.out⟩
        | cons c0 r1 =>
          have HF := hid (RuG.no (fun mm hm => by have := (HEND.out mm hm).2; cases this))
          clear hge hj hgk e4 hlen hje
          go_wp2_with fail
          refine hdone.mono ?_
          rintro e w4 ⟨rfl, rfl⟩
          go_wp2
          go_ret2
          exact RGet.no HF.out hB.out
      · have HF := hid (RuG.no (fun mm hm => by have h1 := (HEND.out mm hm).1; have h2 := hm.2.1; rw [h1] at h2; exact hlen (by omega)))
        obtain ⟨q, hq⟩ : ∃ q, q = (xpO r).length := ⟨_, rfl⟩
        rw [← hq] at hlen ⊢
        have e4 : ((q : Int) != (N : Int)) = true := by simp; omega
        have e5 : ¬ (q : Int) = (N : Int) := by omega
        have e6 : ¬ q = N := hlen
        clear hge hj hgk hlen hje hdone hq
        go_wp2
        go_ret2
        exact RGet.no HF.out hB.out
end Go.Proofs.Ytolaojkcofbkhaa
