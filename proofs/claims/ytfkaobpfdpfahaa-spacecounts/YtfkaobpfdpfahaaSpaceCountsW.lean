/- The walk of SpaceCounts: for every input the law answers true. -/
import Derived.Test.YtfkaobpfdpfahaaSpPlay
import Derived.Test.YtfkaobpfdpfahaaFrame
namespace Go.Proofs.Ytfkaobpfdpfahaa
open Go.RowKit

theorem count_takeT (l : List Bool) (j : Nat) (b : Bool) (h : l[j]? = some b) : (l.take (j + 1)).count true = (l.take j).count true + if b then 1 else 0 := by
  obtain ⟨hj, rfl⟩ := List.getElem?_eq_some_iff.1 h
  rw [List.take_succ_eq_append_getElem hj, List.count_append]
  cases l[j] <;> rfl
theorem u8mod10 (a : Int) (h : 0 ≤ a) : ∃ q : Nat, q < 10 ∧ a.tmod 10 = (q : Int) := by
  have h1 : a.tmod 10 = a % 10 := Int.tmod_eq_emod_of_nonneg h
  exact ⟨(a % 10).toNat, by omega, by rw [h1]; omega⟩

set_option maxRecDepth 20000 in
set_option maxHeartbeats 8000000 in
theorem counts_core (b1 : Int) (hb1 : 0 ≤ b1) (A : Option Addr) (n c : Nat) (o : Nat → Int × Int) (w : World) (hops : OpsP w w.heap.size A n o) (hn : n ≤ 9223372036854775807) :
    Calls Try.prog 6 #[.slice A n c, .int .u8 b1] w fun e w' => e = .returned (.bool true) ∧ Below w.heap.size w w' := by
  obtain ⟨r, hr, m0⟩ := u8mod10 b1 hb1
  have m1 : wrap64 (r : Int) = (r : Int) := by clear m0; unfold wrap64; omega
  have HR := hid hr
  have HOPS := hid hops
  have HN := hid hn
  clear hops hn hb1 hr
  go_enter Try.func6, Try.ntmps6
  go_wp2_with fail
  refine (first_c w).mono ?_
  rintro e w1 ⟨rfl, hb1⟩
  have HB1 := hid hb1
  clear hb1
  go_wp2_with fail
  try simp only [m1]
  refine (snew_c 30 (r : Int) 30 r rfl rfl w1 (by decide) (by decide) (by have := HR.out; omega)).mono ?_
  rintro e w2 ⟨g, k, rfl, hm, hb, hg, hk⟩
  have H2 : Hid (MOn w w2 g k (Sp.new 30 r)) := hid (MOn.new HB1.out hm hb hg hk)
  have HL0 : Hid ((Sp.new 30 r).T.length = 30 ∧ (Sp.new 30 r).r = r) := hid ⟨tf_len 30 r (by have := HR.out; omega), rfl⟩
  clear hm hb hg hk HB1
  go_wp2_with fail
  clear m0 m1
  go_loopg [24] n (fun q iv wr => ∃ (j : Nat) (s : Sp), iv = .int .i64 (j : Int) ∧ Hid (q = n - j) ∧ Hid (j ≤ n) ∧ Hid (j ≤ 80) ∧ Hid (MOn w wr g k s) ∧ Hid (s.T.length = 30 ∧ s.r = r))
  case atStart => exact ⟨0, _, rfl, hid (by omega), hid (Nat.zero_le _), hid (by decide), H2, HL0⟩
  case round =>
    obtain ⟨j, s, rfl, hgk, hj, hj80, hM, hS⟩ := hrel
    clear H2 HL0
    have HEND : Hid (∀ wx, MOn w wx g k s → Calls Try.prog 20 #[.pointer (some ⟨g, 0, none⟩)] wx fun e w' => ∃ g' k', e = .returned (.pointer (some ⟨g', 0, none⟩)) ∧ Mp w' g' k' s ∧ MOn w w' g k s) := hid (fun wx hx => (copy_c wx g k s hx.mp).mono (by
      rintro e w' ⟨g', k', rfl, h1, h2, h3, h4⟩
      exact ⟨g', k', rfl, h1, hx.go h2⟩))
    rcases Nat.lt_or_ge j n with hlt | hge
    · have HLT := hid hlt
      obtain ⟨b, off, rfl, hbl, hR0⟩ := HOPS.out j hlt
      have HR1 := hid (rangeAt_keep hR0 (hM.out.bel.block b hbl))
      obtain ⟨d, hd1, hd2⟩ := Try.undO
      have HD := hid (And.intro hd1 hd2)
      have HIN : Hid ((Try.prog.info? 32).map (·.size) = some (oc (o j)).length) := hid Try.infoO
      have HT : Hid ((wr.alloc (.cells #[.int .i64 0, .int .i64 0] 32)).there wr.heap.size 0 (oc (o j)).toArray.size) := hid (z2 wr)
      have HC := hid (oc_one (o j))
      have HV : Hid (VarP wr ((wr.alloc (.cells #[.int .i64 0, .int .i64 0] 32)).setCells wr.heap.size 0 (oc (o j))) (o j)) := hid (VarP.of wr (o j))
      have j1 : (0 : Int) ≤ (j : Int) := by omega
      have j2 : (j : Int) < (n : Int) := by omega
      have j3 : decide ((j : Int) < (n : Int)) = true := by simpa using hlt
      have j4 : decide (j < n) = true := by simpa using hlt
      have wj : wrap64 ((j : Int) + 1) = ((j + 1 : Nat) : Int) := by have := HN.out; unfold wrap64; omega
      clear hR0 hbl
      generalize o j = x at *
      generalize oc x = E at *
      as_aux_lemma =>
      go_upto_region 8 with (first | (refine wpList_load_mid rfl 32 _ rfl b (off + j * 2) rfl E d HR1.out HD.out.1 HD.out.2 HIN.out ?_) | (refine wpList_store_mid rfl 32 _ _ rfl _ _ E.toArray rfl rfl HT.out HIN.out HC.out ?_))
      simp only [Act.put]
      generalize (wr.alloc (.cells #[.int .i64 0, .int .i64 0] 32)).setCells wr.heap.size 0 E = w2 at *
      have x0 := HV.out.c0
      have x1 := HV.out.c1
      have HM2 : Hid (MOn w w2 g k s) := hid (hM.out.go HV.out.bel)
      clear HR1 HT HC HIN hM HV
      generalize wr.heap.size = v at *
      by_cases h80 : 80 ≤ j
      · have e1 : decide ((80 : Int) ≤ (j : Int)) = true := by simp; omega
        have hc := HEND.out w2 HM2.out
        clear h80
        go_wp2_with fail
        refine hc.mono ?_
        rintro e w3 ⟨g', k', rfl, h1, h2⟩
        have HM3 := hid h2
        have hc := free_c w3 g' k' s h1
        clear h1 h2
        go_wp2_with fail
        refine hc.mono ?_
        rintro e w' ⟨rfl, rfl⟩
        have hc := free_c w3 g k s HM3.out.mp
        go_wp2_with fail
        refine hc.mono ?_
        rintro e w' ⟨rfl, rfl⟩
        clear hc
        generalize s.free = f at *
        go_wp2
        go_ret
        exact ⟨by simp, HM3.out.bel⟩
      · have e1 : decide ((80 : Int) ≤ (j : Int)) = false := by simp; omega
        have HJ : Hid (j < 80) := hid (by omega)
        have HX : Hid (w2.rangeAt v 0 [.int .i64 x.1, .int .i64 x.2]) := hid (fun t u ht => by
          match t, ht with
          | 0, ht => simp at ht; subst ht; simpa using x0
          | 1, ht => simp at ht; subst ht; simpa using x1
          | _ + 2, ht => simp at ht)
        have HW3 : Hid (OpsP (w2.alloc (.cells #[.int .i64 x.1, .int .i64 x.2] 32)) (w2.alloc (.cells #[.int .i64 x.1, .int .i64 x.2] 32)).heap.size (some ⟨w2.heap.size, 0, none⟩) 1 (fun _ => x)) := hid (fun t ht => ⟨w2.heap.size, 0, rfl, by simp, fun i u hu => by
          rw [(Blk.new w2 32 #[.int .i64 x.1, .int .i64 x.2]).cell]
          have : t = 0 := by omega
          subst this
          rw [show (#[.int .i64 x.1, .int .i64 x.2] : Array Value) = (oc x).toArray from rfl, List.getElem?_toArray]
          simpa using hu⟩)
        have HM3 : Hid (MOn w (w2.alloc (.cells #[.int .i64 x.1, .int .i64 x.2] 32)) g k s) := hid (HM2.out.go ((Below.refl _ _).alloc (Nat.le_refl _) _))
        have HKN : Hid (w2.heap.size ≠ k) := hid (by have := HM2.out.mp.row.lt; omega)
        clear h80 x0 x1 HM2
        go_upto_region 10 with (first | (refine wpList_load_mid rfl 32 _ rfl v 0 rfl [.int .i64 x.1, .int .i64 x.2] d HX.out HD.out.1 HD.out.2 Try.infoO ?_))
        refine (play_c _ g k s HM3.out.mp _ 1 1 _ HW3.out (fun _ b hb => by simp at hb; subst hb; exact HKN.out) (by decide)).mono ?_
        rintro e w4 ⟨rfl, hL⟩
        have HM4 : Hid (MOn w w4 g k (s.act x)) := hid (HM3.out.left hL)
        have HS4 : Hid ((s.act x).T.length = 30 ∧ (s.act x).r = r) := hid ⟨(s.act_len x).trans hS.out.1, (s.act_r x).trans hS.out.2⟩
        clear hL HM3 HW3 HKN HX HD HEND hd1 hd2 hS
        generalize s.act x = s4 at *
        go_wp2_with fail
        go_loopg [10, 35] 30 (fun q nv iv wq => ∃ (i t : Nat), nv = .int .i64 (t : Int) ∧ iv = .int .i64 (i : Int) ∧ Hid (q = 30 - i) ∧ Hid (i ≤ 30) ∧ Hid (MOn w wq g k s4) ∧ Hid (t = (s4.T.take i).count true ∧ t ≤ i))
        case atStart => exact ⟨0, 0, rfl, rfl, hid (by omega), hid (Nat.zero_le _), HM4, hid ⟨rfl, Nat.le_refl _⟩⟩
        case round =>
          obtain ⟨i, t, rfl, rfl, hgi, hi, hM, hT⟩ := hrel
          clear HM4
          rcases Nat.lt_or_ge i 30 with hil | hig
          · have i3 : decide ((i : Int) < 30) = true := by simp; omega
            have HIL := hid hil
            have wi : wrap64 ((i : Int) + 1) = ((i + 1 : Nat) : Int) := by unfold wrap64; omega
            have wt : wrap64 ((t : Int) + 1) = ((t + 1 : Nat) : Int) := by have := hT.out.2; clear wi; unfold wrap64; omega
            obtain ⟨bb, hjb⟩ : ∃ bb, s4.T[i]? = some bb := ⟨s4.T[i]'(by have := HS4.out.1; omega), by simp⟩
            have hc := taken_c wr g k s4 hM.out.mp i
            rw [Sp.tk_in hjb] at hc
            have hq := count_takeT s4.T i bb hjb
            clear hil
            cases bb with
            | true =>
              have HQ : Hid (t + 1 = (s4.T.take (i + 1)).count true ∧ t + 1 ≤ i + 1) := hid ⟨by rw [hq, ← hT.out.1]; rfl, by have := hT.out.2; omega⟩
              clear hq hjb hT
              rcases Nat.lt_or_ge i r with hir | hir
              · have i5 : decide ((i : Int) < (r : Int)) = true := by simpa using hir
                have i6 : decide (i < r) = true := by simpa using hir
                clear hir
                as_aux_lemma =>
                go_wp2_with fail
                refine hc.mono ?_
                rintro e w' ⟨rfl, rfl⟩
                go_wp2_with fail
                refine hc.mono ?_
                rintro e w' ⟨rfl, rfl⟩
                clear hc
                go_wp2
                go_roundg (30 - (i + 1))
                case measure => have := hgi.out; have := HIL.out; omega
                case rel => exact ⟨i + 1, t + 1, congrArg (Value.int .i64) (by first | exact wt | omega | rfl), congrArg (Value.int .i64) (by first | exact wi | omega | rfl), hid rfl, hid (by have := HIL.out; omega), hM, HQ⟩
              · have i5 : decide ((i : Int) < (r : Int)) = false := by simp; omega
                have i6 : decide (i < r) = false := by simp; omega
                clear hir
                as_aux_lemma =>
                go_wp2_with fail
                refine hc.mono ?_
                rintro e w' ⟨rfl, rfl⟩
                clear hc
                go_wp2
                go_roundg (30 - (i + 1))
                case measure => have := hgi.out; have := HIL.out; omega
                case rel => exact ⟨i + 1, t + 1, congrArg (Value.int .i64) (by first | exact wt | omega | rfl), congrArg (Value.int .i64) (by first | exact wi | omega | rfl), hid rfl, hid (by have := HIL.out; omega), hM, HQ⟩
            | false =>
              have HQ : Hid (t = (s4.T.take (i + 1)).count true ∧ t ≤ i + 1) := hid ⟨by rw [hq, ← hT.out.1]; rfl, by have := hT.out.2; omega⟩
              have hir : r ≤ i := by
                rcases Nat.lt_or_ge i r with h | h
                · have := hM.out.mp.ok.res i (by rw [HS4.out.2]; exact h)
                  rw [hjb] at this
                  cases this
                · exact h
              have i5 : decide ((i : Int) < (r : Int)) = false := by simp; omega
              have i6 : decide (i < r) = false := by simp; omega
              clear hq hjb hT hir
              as_aux_lemma =>
              go_wp2_with fail
              refine hc.mono ?_
              rintro e w' ⟨rfl, rfl⟩
              clear hc
              go_wp2
              go_roundg (30 - (i + 1))
              case measure => have := hgi.out; have := HIL.out; omega
              case rel => exact ⟨i + 1, t, rfl, congrArg (Value.int .i64) (by first | exact wi | omega | rfl), hid rfl, hid (by have := HIL.out; omega), hM, HQ⟩
          · have i3 : decide ((i : Int) < 30) = false := by simp; omega
            have hc := free_c wr g k s4 hM.out.mp
            have hsum : t + s4.free = 30 := by
              have h1 := count_all s4.T
              have h2 := hT.out.1
              rw [List.take_of_length_le (by have := HS4.out.1; omega)] at h2
              have h3 := HS4.out.1
              unfold Sp.free
              omega
            have ws : wrap64 ((t : Int) + (s4.free : Int)) = 30 := by unfold wrap64; omega
            clear hig hT hsum
            as_aux_lemma =>
            go_wp2_with fail
            refine hc.mono ?_
            rintro e w' ⟨rfl, rfl⟩
            clear hc
            generalize s4.free = f at *
            go_wp2
            go_roundg (n - (j + 1))
            case measure => have := hgk.out; have := HLT.out; omega
            case rel => exact ⟨j + 1, s4, congrArg (Value.int .i64) (by first | exact wj | omega | rfl), hid rfl, hid (by have := HLT.out; omega), hid (by have := HJ.out; omega), hM, HS4⟩
    · have j3 : decide ((j : Int) < (n : Int)) = false := by simp; omega
      have j4 : decide (j < n) = false := by simp; omega
      have hc := HEND.out wr hM.out
      clear hge
      as_aux_lemma =>
      go_wp2_with fail
      refine hc.mono ?_
      rintro e w3 ⟨g', k', rfl, h1, h2⟩
      have HM3 := hid h2
      have hc := free_c w3 g' k' s h1
      clear h1 h2
      go_wp2_with fail
      refine hc.mono ?_
      rintro e w' ⟨rfl, rfl⟩
      have hc := free_c w3 g k s HM3.out.mp
      go_wp2_with fail
      refine hc.mono ?_
      rintro e w' ⟨rfl, rfl⟩
      clear hc
      generalize s.free = f at *
      go_wp2
      go_ret
      exact ⟨by simp, HM3.out.bel⟩

theorem walkSpaceCounts (a0 : Option Addr) (n0 c0 : Nat) (o0 : Nat → Int × Int) (z1 : Int) (w : World) (h0 : OpsP w w.heap.size a0 n0 o0 ∧ n0 ≤ 9223372036854775807) (h1 : (Lit.int IntKind.u8 z1).wf = true) :
    Calls Try.prog 6 #[.slice a0 n0 c0, .int .u8 z1] w fun e w' => e = .returned (.bool true) ∧ Below w.heap.size w w' := counts_core z1 (wf_u8 h1).1 a0 n0 c0 o0 w h0.1 h0.2
end Go.Proofs.Ytfkaobpfdpfahaa
