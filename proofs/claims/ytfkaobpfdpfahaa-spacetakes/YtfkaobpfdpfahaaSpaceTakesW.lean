/- The walk of SpaceTakes: for every input the law answers true. -/
import Derived.Test.YtfkaobpfdpfahaaSpFirst
import Derived.Test.YtfkaobpfdpfahaaFrame
namespace Go.Proofs.Ytfkaobpfdpfahaa
open Go.RowKit

theorem tf_take (N r j : Nat) (h : j < N) : (Sp.mk (tf N j) r).takeN = j ∧ (Sp.mk (tf N j) r).any = true ∧ (Sp.mk (tf N j) r).take = ⟨tf N (j + 1), r⟩ := by
  have hl : (Sp.mk (tf N j) r).least = j := by
    refine idx_of (l := tf N j) (fun i hi => ?_) ?_
    · rw [tf_get N j i (by omega) (by omega)]; simpa using hi
    · rw [tf_get N j j (by omega) h]; simp
  have ha : (Sp.mk (tf N j) r).any = true := by
    unfold Sp.any
    rw [hl]
    show decide (j < (tf N j).length) = true
    rw [tf_len N j (by omega)]
    simpa using h
  refine ⟨by unfold Sp.takeN; rw [ha, hl]; rfl, ha, ?_⟩
  unfold Sp.take Sp.put
  rw [hl]
  show Sp.mk ((tf N j).set j true) r = _
  rw [tf_set N j h]
/-- What was seen: nothing from j on. -/
structure Seen (wr : World) (v j : Nat) : Prop where
  ex : ∃ cs : Array Value, Blk wr v 45 cs ∧ cs.size = 60 ∧ ∀ i, j ≤ i → i < 60 → cs[i]? = some (.bool false)
theorem Seen.keep {wr wr' : World} {v j : Nat} (h : Seen wr v j) (hk : wr'.heap[v]? = wr.heap[v]?) : Seen wr' v j := by
  obtain ⟨cs, h1, h2, h3⟩ := h.ex
  exact ⟨cs, h1.keep hk, h2, h3⟩
theorem Seen.lt {wr : World} {v j : Nat} (h : Seen wr v j) : v < wr.heap.size := by
  obtain ⟨cs, h1, h2, h3⟩ := h.ex
  exact h1.lt
theorem Seen.at_ {wr : World} {v j : Nat} (h : Seen wr v j) (hj : j < 60) : wr.cell? ⟨v, j, none⟩ = some (.bool false) ∧ wr.frozen? ⟨v, j, none⟩ = false ∧ Seen (wr.setCell ⟨v, j, none⟩ (.bool true)) v (j + 1) := by
  obtain ⟨cs, h1, h2, h3⟩ := h.ex
  refine ⟨by rw [h1.cell]; exact h3 j (Nat.le_refl _) hj, h1.frozen _, ⟨_, h1.store j _, by simpa using h2, fun i hi hi2 => ?_⟩⟩
  rw [Array.getElem?_setIfInBounds, if_neg (by omega)]
  exact h3 i (by omega) hi2

theorem u8mod (a : Int) (h : 0 ≤ a) (m : Nat) (hm : 0 < m) : ∃ q : Nat, q < m ∧ a.tmod (m : Int) = (q : Int) := by
  have h1 : a.tmod (m : Int) = a % (m : Int) := Int.tmod_eq_emod_of_nonneg h
  have h2 : 0 ≤ a % (m : Int) := Int.emod_nonneg _ (by omega)
  have h3 : a % (m : Int) < (m : Int) := Int.emod_lt_of_pos _ (by omega)
  exact ⟨(a % (m : Int)).toNat, by omega, by rw [h1]; omega⟩
theorem i64mod60 (j : Nat) (h : j < 60) : ((j : Int)).tmod 60 = (j : Int) := by
  rw [Int.tmod_eq_emod_of_nonneg (by omega)]
  omega

set_option maxRecDepth 20000 in
set_option maxHeartbeats 8000000 in
theorem takes_core (b0 b1 : Int) (hb0 : 0 ≤ b0) (hb1 : 0 ≤ b1 ∧ b1 < 256) (A : Option Addr) (n c : Nat) (zs : List Int) (w : World) (hl : Lst w 0 w.heap.size A n (zs.map (Value.int .i64))) (hn : n ≤ 9223372036854775807) :
    Calls Try.prog 5 #[.int .u8 b0, .int .u8 b1, .slice A n c] w fun e w' => e = .returned (.bool true) ∧ Below w.heap.size w w' := by
  obtain ⟨q, hq, m0⟩ := u8mod b0 hb0 60 (by decide)
  rw [show ((60 : Nat) : Int) = 60 from rfl] at m0
  have mq : wrap64 (q : Int) = (q : Int) := by clear m0; unfold wrap64; omega
  have mb : wrap64 b1 = b1 := by clear m0 mq; unfold wrap64; omega
  have m1 : wrap64 (1 + (q : Int)) = ((q + 1 : Nat) : Int) := by clear m0 mq mb; unfold wrap64; omega
  have m2 : wrap64 (((q + 1 : Nat) : Int) + 1) = ((q + 2 : Nat) : Int) := by clear m0 mq mb m1; unfold wrap64; omega
  obtain ⟨r, hr, m3⟩ := u8mod b1 hb1.1 (q + 2) (by omega)
  have HQ : Hid (q < 60) := hid hq
  have HRN : Hid (r ≤ q + 1) := hid (by omega)
  have m4 : (((q + 2 : Nat) : Int) == 0) = false := beq_false_of_ne (by omega)
  have m5 : ¬ ((q + 2 : Nat) : Int) = 0 := by omega
  have HL := hid hl
  have HN := hid hn
  clear hl hn hq hr hb0 hb1
  generalize hN : q + 1 = N at *
  generalize hN2 : q + 2 = N2 at *
  have HN1 := hid hN
  clear hN hN2
  go_enter Try.func5, Try.ntmps5
  go_wp2_with fail
  refine (first_c w).mono ?_
  rintro e w1 ⟨rfl, hb1⟩
  have HB1 := hid hb1
  clear hb1
  go_wp2_with fail
  try simp only [mq, mb, m1, m2]
  refine (snew_c (N : Int) (r : Int) N r rfl rfl w1 (by have := HN1.out; omega) (by have := HN1.out; have := HQ.out; omega) HRN.out).mono ?_
  rintro e w2 ⟨g, k, rfl, hm, hb, hg, hk⟩
  have H2 : Hid (MOn w w2 g k (Sp.new N r)) := hid (MOn.new HB1.out hm hb hg hk)
  have Z : Hid (Seen (w2.alloc (.cells #[.bool false, .bool false, .bool false, .bool false, .bool false, .bool false, .bool false, .bool false, .bool false, .bool false, .bool false, .bool false, .bool false, .bool false, .bool false, .bool false, .bool false, .bool false, .bool false, .bool false, .bool false, .bool false, .bool false, .bool false, .bool false, .bool false, .bool false, .bool false, .bool false, .bool false, .bool false, .bool false, .bool false, .bool false, .bool false, .bool false, .bool false, .bool false, .bool false, .bool false, .bool false, .bool false, .bool false, .bool false, .bool false, .bool false, .bool false, .bool false, .bool false, .bool false, .bool false, .bool false, .bool false, .bool false, .bool false, .bool false, .bool false, .bool false, .bool false, .bool false] 45)) w2.heap.size r) := hid ⟨_, Blk.new _ _ _, by rfl, fun i _ hi => by rw [show (#[.bool false, .bool false, .bool false, .bool false, .bool false, .bool false, .bool false, .bool false, .bool false, .bool false, .bool false, .bool false, .bool false, .bool false, .bool false, .bool false, .bool false, .bool false, .bool false, .bool false, .bool false, .bool false, .bool false, .bool false, .bool false, .bool false, .bool false, .bool false, .bool false, .bool false, .bool false, .bool false, .bool false, .bool false, .bool false, .bool false, .bool false, .bool false, .bool false, .bool false, .bool false, .bool false, .bool false, .bool false, .bool false, .bool false, .bool false, .bool false, .bool false, .bool false, .bool false, .bool false, .bool false, .bool false, .bool false, .bool false, .bool false, .bool false, .bool false, .bool false] : Array Value) = Array.replicate 60 (.bool false) from rfl]; simp [hi]⟩
  have H3 : Hid (MOn w (w2.alloc (.cells #[.bool false, .bool false, .bool false, .bool false, .bool false, .bool false, .bool false, .bool false, .bool false, .bool false, .bool false, .bool false, .bool false, .bool false, .bool false, .bool false, .bool false, .bool false, .bool false, .bool false, .bool false, .bool false, .bool false, .bool false, .bool false, .bool false, .bool false, .bool false, .bool false, .bool false, .bool false, .bool false, .bool false, .bool false, .bool false, .bool false, .bool false, .bool false, .bool false, .bool false, .bool false, .bool false, .bool false, .bool false, .bool false, .bool false, .bool false, .bool false, .bool false, .bool false, .bool false, .bool false, .bool false, .bool false, .bool false, .bool false, .bool false, .bool false, .bool false, .bool false] 45)) g k ⟨tf N r, r⟩) := hid (H2.out.go ((Below.refl _ _).alloc (Nat.le_refl _) _))
  have HV : Hid (w2.heap.size ≠ g ∧ w2.heap.size ≠ k ∧ w.heap.size ≤ w2.heap.size) := hid ⟨by have := hm.blk.lt; omega, by have := hm.row.lt; omega, H2.out.bel.size⟩
  have HNQ : Hid (N ≤ 60) := hid (by have := HN1.out; have := HQ.out; omega)
  clear hm hb hg hk H2 HB1
  go_wp2_with fail
  clear m0 mq mb m1 m2 m3 m4 m5
  generalize w2.alloc (.cells #[.bool false, .bool false, .bool false, .bool false, .bool false, .bool false, .bool false, .bool false, .bool false, .bool false, .bool false, .bool false, .bool false, .bool false, .bool false, .bool false, .bool false, .bool false, .bool false, .bool false, .bool false, .bool false, .bool false, .bool false, .bool false, .bool false, .bool false, .bool false, .bool false, .bool false, .bool false, .bool false, .bool false, .bool false, .bool false, .bool false, .bool false, .bool false, .bool false, .bool false, .bool false, .bool false, .bool false, .bool false, .bool false, .bool false, .bool false, .bool false, .bool false, .bool false, .bool false, .bool false, .bool false, .bool false, .bool false, .bool false, .bool false, .bool false, .bool false, .bool false] 45) = w3 at *
  generalize w2.heap.size = v at *
  go_loopg [12] (N - r) (fun q' iv wr => ∃ j : Nat, iv = .int .i64 (j : Int) ∧ Hid (q' = N - j) ∧ Hid (j ≤ N) ∧ Hid (MOn w wr g k ⟨tf N j, r⟩) ∧ Hid (Seen wr v j))
  case atStart => exact ⟨r, rfl, hid rfl, HRN, H3, Z⟩
  case round =>
    obtain ⟨j, rfl, hgk, hj, hM, hZ⟩ := hrel
    clear H3 Z
    rcases Nat.lt_or_ge j N with hlt | hge
    · have j3 : decide ((j : Int) < (N : Int)) = true := by simpa using hlt
      have j4 : decide (j < N) = true := by simpa using hlt
      have HLT := hid hlt
      have wj : wrap64 ((j : Int) + 1) = ((j + 1 : Nat) : Int) := by have := HNQ.out; unfold wrap64; omega
      have jm := i64mod60 j (by have := HNQ.out; omega)
      have j1 : (0 : Int) ≤ (j : Int) := by omega
      have j2 : (j : Int) < 60 := by have := HNQ.out; omega
      have j5 : ((j : Int) != (j : Int)) = false := by simp
      have hc := take_any wr g k _ hM.out.mp
      obtain ⟨t1, t2, t3⟩ := tf_take N r j hlt
      rw [t1, t2, t3] at hc
      clear t1 t2 t3 hlt
      as_aux_lemma =>
      go_wp2_with fail
      refine hc.mono ?_
      rintro e w4 ⟨rfl, hL⟩
      have HM4 := hid (hM.out.left hL)
      have HZ4 := hid (hZ.out.keep (hL.at_ hZ.out.lt HV.out.2.1))
      obtain ⟨z1, z2, z3⟩ := HZ4.out.at_ (by have := HNQ.out; have := HLT.out; omega)
      have HZ5 := hid z3
      have HM5 := hid (HM4.out.set HV.out.1 HV.out.2.1 HV.out.2.2 j (.bool true))
      clear hL hc z3 hM hZ HZ4 HM4
      go_wp2
      go_roundg (N - (j + 1))
      case measure => have := hgk.out; have := HLT.out; omega
      case rel => exact ⟨j + 1, congrArg (Value.int .i64) (by first | exact wj | omega | rfl), hid rfl, hid (by have := HLT.out; omega), HM5, HZ5⟩
    · have j3 : decide ((j : Int) < (N : Int)) = false := by simp; omega
      have j4 : decide (j < N) = false := by simp; omega
      obtain rfl : j = N := by have := hj.out; omega
      have HM6 : Hid (∃ s : Sp, MOn w wr g k s ∧ s.free = 0) := hid ⟨_, hM.out, by show (tf j j).count false = 0; unfold tf; rw [List.count_append, count_rep]; simp⟩
      clear hM hZ hgk hj hge
      generalize wr = w6 at *
      as_aux_lemma =>
      go_wp2_with fail
      go_loopg [15, 68] n (fun q' gv iv wr => ∃ (i f : Nat) (s : Sp), gv = .int .i64 (f : Int) ∧ iv = .int .i64 (i : Int) ∧ Hid (q' = n - i) ∧ Hid (i ≤ n) ∧ Hid (MOn w wr g k s) ∧ Hid (s.free = f))
      case atStart =>
        obtain ⟨s, h1, h2⟩ := HM6.out
        exact ⟨0, 0, s, rfl, rfl, hid (by omega), hid (Nat.zero_le _), hid h1, hid h2⟩
      case round =>
        obtain ⟨i, f, s, rfl, rfl, hgi, hi, hM, hF⟩ := hrel
        clear HM6
        rcases Nat.lt_or_ge i n with hil | hig
        · have i3 : decide ((i : Int) < (n : Int)) = true := by simpa using hil
          have i4 : decide (i < n) = true := by simpa using hil
          have HIL := hid hil
          have wi : wrap64 ((i : Int) + 1) = ((i + 1 : Nat) : Int) := by have := HN.out; unfold wrap64; omega
          have wf : wrap64 ((f : Int) + 1) = ((f + 1 : Nat) : Int) := by have := hF.out; have := s.free_le; have := hM.out.mp.ok.n2; clear wi; unfold wrap64; omega
          have i1 : (0 : Int) ≤ (i : Int) := by omega
          have i2 : (i : Int) < (n : Int) := by omega
          have hL := HL.out.below hM.out.bel (Nat.le_refl _)
          obtain ⟨ab, off, rfl, -, -, hcl⟩ := hL.2 (by omega)
          have hil2 : i < zs.length := by have := hL.1; simp at this; omega
          have c1 : wr.cell? ⟨ab, off + i, none⟩ = some (.int .i64 zs[i]) := hcl i _ (by simp [hil2])
          generalize zs[i] = z at *
          clear hL hcl hil2 hil
          by_cases h100 : i < 100
          · have e1 : decide ((i : Int) < 100) = true := by simp; omega
            have hc := give_any wr g k s hM.out.mp z
            have hgf := s.give_free z
            clear h100
            cases hgv : s.gv z with
            | true =>
              rw [hgv] at hc hgf
              have HGF : Hid ((s.give z).free = f + 1) := hid (by rw [hgf, hF.out]; rfl)
              clear hgf hgv
              as_aux_lemma =>
              go_wp2_with fail
              refine hc.mono ?_
              rintro e w7 ⟨rfl, hL⟩
              have HM7 := hid (hM.out.left hL)
              clear hL hc hM hF
              go_wp2
              go_roundg (n - (i + 1))
              case measure => have := hgi.out; have := HIL.out; omega
              case rel => exact ⟨i + 1, f + 1, _, congrArg (Value.int .i64) (by first | exact wf | omega | rfl), congrArg (Value.int .i64) (by first | exact wi | omega | rfl), hid rfl, hid (by have := HIL.out; omega), HM7, HGF⟩
            | false =>
              rw [hgv] at hc hgf
              have HGF : Hid ((s.give z).free = f) := hid (by rw [hgf, hF.out]; rfl)
              clear hgf hgv
              as_aux_lemma =>
              go_wp2_with fail
              refine hc.mono ?_
              rintro e w7 ⟨rfl, hL⟩
              have HM7 := hid (hM.out.left hL)
              clear hL hc hM hF
              go_wp2
              go_roundg (n - (i + 1))
              case measure => have := hgi.out; have := HIL.out; omega
              case rel => exact ⟨i + 1, f, _, rfl, congrArg (Value.int .i64) (by first | exact wi | omega | rfl), hid rfl, hid (by have := HIL.out; omega), HM7, HGF⟩
          · have e1 : decide ((i : Int) < 100) = false := by simp; omega
            clear h100
            as_aux_lemma =>
            go_wp2
            go_roundg (n - (i + 1))
            case measure => have := hgi.out; have := HIL.out; omega
            case rel => exact ⟨i + 1, f, s, rfl, congrArg (Value.int .i64) (by first | exact wi | omega | rfl), hid rfl, hid (by have := HIL.out; omega), hM, hF⟩
        · have i3 : decide ((i : Int) < (n : Int)) = false := by simp; omega
          have i4 : decide (i < n) = false := by simp; omega
          have HF1 : Hid (f ≤ 4096) := hid (by have := hF.out; have := s.free_le; have := hM.out.mp.ok.n2; omega)
          have HM8 : Hid (∃ s : Sp, MOn w wr g k s ∧ s.free = f) := hid ⟨s, hM.out, hF.out⟩
          clear hM hF hgi hi hig
          as_aux_lemma =>
          go_wp2_with fail
          go_loopg [84] f (fun q' iv wr => ∃ (p : Nat) (s : Sp), iv = .int .i64 (p : Int) ∧ Hid (q' = f - p) ∧ Hid (p ≤ f) ∧ Hid (MOn w wr g k s) ∧ Hid (s.free = f - p))
          case atStart =>
            obtain ⟨s, h1, h2⟩ := HM8.out
            exact ⟨0, s, rfl, hid (by omega), hid (Nat.zero_le _), hid h1, hid h2⟩
          case round =>
            obtain ⟨p, s, rfl, hgp, hp, hM, hF⟩ := hrel
            clear HM8
            rcases Nat.lt_or_ge p f with hpl | hpg
            · have p3 : decide ((p : Int) < (f : Int)) = true := by simpa using hpl
              have p4 : decide (p < f) = true := by simpa using hpl
              have HPL := hid hpl
              have wp : wrap64 ((p : Int) + 1) = ((p + 1 : Nat) : Int) := by have := HF1.out; unfold wrap64; omega
              have hc := take_any wr g k s hM.out.mp
              rw [show s.any = true by rw [s.any_iff, hF.out]; simp; omega] at hc
              have HTF : Hid (s.take.free = f - (p + 1)) := hid (by rw [s.take_free, hF.out]; omega)
              clear hpl
              as_aux_lemma =>
              go_wp2_with fail
              refine hc.mono ?_
              rintro e w7 ⟨rfl, hL⟩
              have HM7 := hid (hM.out.left hL)
              clear hL hc hM hF
              go_wp2
              go_roundg (f - (p + 1))
              case measure => have := hgp.out; have := HPL.out; omega
              case rel => exact ⟨p + 1, _, congrArg (Value.int .i64) (by first | exact wp | omega | rfl), hid rfl, hid (by have := HPL.out; omega), HM7, HTF⟩
            · have p3 : decide ((p : Int) < (f : Int)) = false := by simp; omega
              have p4 : decide (p < f) = false := by simp; omega
              have h0 : s.free = 0 := by rw [hF.out]; omega
              have hc := take_any wr g k s hM.out.mp
              rw [show s.any = false by rw [s.any_iff, h0]; rfl] at hc
              have HTF : Hid (s.take.free = 0) := hid (by rw [s.take_free, h0])
              clear h0 hpg
              as_aux_lemma =>
              go_wp2_with fail
              refine hc.mono ?_
              rintro e w7 ⟨rfl, hL⟩
              have HM7 := hid (hM.out.left hL)
              have hc := free_c w7 g k _ hL.1
              rw [HTF.out] at hc
              clear hL hM hF
              go_wp2_with fail
              refine hc.mono ?_
              rintro e w' ⟨rfl, rfl⟩
              clear hc
              go_wp2
              go_ret
              exact ⟨rfl, HM7.out.bel⟩

theorem walkSpaceTakes (z0 z1 : Int) (a2 : Option Addr) (n2 c2 : Nat) (zs : List Int) (w : World) (h0 : (Lit.int IntKind.u8 z0).wf = true) (h1 : (Lit.int IntKind.u8 z1).wf = true) (h2 : IsRow .i64 w a2 n2 c2 zs) :
    Calls Try.prog 5 #[.int .u8 z0, .int .u8 z1, .slice a2 n2 c2] w fun e w' => e = .returned (.bool true) ∧ Below w.heap.size w w' := by
  obtain ⟨k1, k2, k3, -, -⟩ := argI h2
  exact takes_core z0 z1 (wf_u8 h0).1 (wf_u8 h1) a2 n2 c2 _ w k1 (by unfold maxLen at k3; omega)
end Go.Proofs.Ytfkaobpfdpfahaa
