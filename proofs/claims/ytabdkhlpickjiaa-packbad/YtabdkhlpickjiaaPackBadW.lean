/- The walk of PackBad: it answers true, whatever the input. -/
import Derived.Test.YtabdkhlpickjiaaPkFirst
import Derived.Test.YtabdkhlpickjiaaFrame
namespace Go.Proofs.Ytabdkhlpickjiaa
open Go.RowKit

set_option maxHeartbeats 2000000 in
theorem walkPackBad (a0 : Option Addr) (n0 c0 : Nat) (z0 : List Int) (a1 : Int) (w : World) (w0 : IsRow .u8 w a0 n0 c0 z0) (w1 : (Lit.int .u8 a1).wf = true) :
    Calls Try.prog 7 #[.slice a0 n0 c0, .int .u8 a1] w fun e w' => e = .returned (.bool true) ∧ Below w.heap.size w w' := by
  obtain ⟨l, hl, hlc, hcm⟩ := argB w0
  obtain ⟨h1, h2⟩ := wf_u8 w1
  obtain ⟨m, rfl⟩ := Int.eq_ofNat_of_zero_le h1
  have hm : m < 256 := by omega
  clear w0 w1 h1 h2
  by_cases hs : 500 < n0
  · have hd : decide ((500 : Int) < (n0 : Int)) = true := by simp; omega
    go_enter Try.func7, Try.ntmps7
    go_wp2_with fail
    refine (first_c w).mono ?_
    rintro e w1 ⟨rfl, hb1⟩
    go_wp2
    go_ret
    exact ⟨rfl, hb1⟩
  · have hd : decide ((500 : Int) < (n0 : Int)) = false := by simp; omega
    go_enter Try.func7, Try.ntmps7
    go_wp2_with fail
    refine (first_c w).mono ?_
    rintro e w1 ⟨rfl, hb1⟩
    have hl1 : Bts w1 0 w.heap.size a0 n0 l := hl.below hb1 (Nat.le_refl _)
    have z1 := hb1.size
    go_wp2_with fail
    refine (open_c a0 n0 c0 l w1 (hl1.wide (Nat.le_refl _) z1) (by omega)).mono ?_
    rintro e w2 ⟨g, rfl, hr2, hs2, hb2⟩
    have z2 := hb2.size
    have hl2 : Bts w2 0 w.heap.size a0 n0 l := hl1.below hb2 z1
    have Hs2 := hid hs2
    clear hs2
    go_wp2_with fail
    refine (open_c a0 n0 c0 l w2 (hl2.wide (Nat.le_refl _) (by omega)) (by omega)).mono ?_
    rintro e w3 ⟨o, rfl, ho3, hs3, hb3⟩
    have z3 := hb3.size
    have hr3 : Rd w3 w1.heap.size g l := hr2.keep fun k _ h2 => hb3.block k (by have := Hs2.out; omega)
    have hg1 : w1.heap.size ≤ g := by obtain ⟨_, _, _, _, _, h, _⟩ := hr2; exact h
    have hgo : g < w2.heap.size := by have := Hs2.out; omega
    clear hr2
    have Hs3 := hid hs3
    clear hs3
    go_wp2_with fail
    go_loopw [30] (fun i wr => ∃ k : Nat, k ≤ n0 ∧ i = .int .i64 (k : Int) ∧ Rd wr w1.heap.size g (l.drop k) ∧ w3.grownBy wr (some g)) (fun i _ => n0 - (intOf i).toNat)
    case atStart => exact ⟨0, Nat.zero_le _, rfl, hr3, grown_refl _ _⟩
    case round =>
      obtain ⟨k, hk, rfl, hrd, hgr⟩ := hrel
      by_cases hlt : k < n0
      · have hkl : k < l.length := by rw [hl.len]; exact hlt
        rw [List.drop_eq_getElem_cons hkl] at hrd
        have hc1 := byte_good wr w1.heap.size g _ _ hrd
        generalize l[k] = bb at *
        go_wp2_with fail
        refine hc1.mono ?_
        rintro e wb ⟨rfl, hrb, hgb⟩
        go_wp2
        exact ⟨⟨k + 1, by omega, by go_num, hrb, hgr.trans hgb⟩, by simp [intOf]; omega⟩
      · have hkn : l.drop k = [] := List.drop_of_length_le (by rw [hl.len]; omega)
        rw [hkn] at hrd
        have hdn := done_good wr _ g [] hrd
        clear hkn
        go_wp2_with fail
        refine hdn.mono ?_
        rintro e wb ⟨rfl, rfl⟩
        go_wp2_with fail
        refine (byte_end wr _ g hrd).mono ?_
        rintro e wb ⟨rfl, hbad, hgb⟩
        have hgr2 := hgr.trans hgb
        clear hrd hgr hgb hdn
        have hm9 : m % 9 < 9 := by omega
        go_wp2_with fail
        go_loopw [50] (fun i wq => ∃ j : Nat, j ≤ m % 9 ∧ i = .int .u8 (j : Int) ∧ Bad wq g ∧ w3.grownBy wq (some g)) (fun i _ => m % 9 - (intOf i).toNat)
        case atStart => exact ⟨0, Nat.zero_le _, rfl, hbad, hgr2⟩
        case round =>
          obtain ⟨j, hj, rfl, hbq, hgq⟩ := hrel
          clear hbad hgr2
          by_cases hjm : j < m % 9
          · have hd3 : decide ((j : Int) < (m : Int) % 9) = true := by simp; omega
            go_wp2_with fail
            refine (rnat_bad wr g hbq).mono ?_
            rintro e wb ⟨rfl, rfl⟩
            go_wp2_with fail
            refine (rtxt_bad wr g hbq).mono ?_
            rintro e wb ⟨rfl, rfl⟩
            go_wp2_with fail
            refine (rnum_bad wr g hbq).mono ?_
            rintro e wb ⟨rfl, rfl⟩
            have hse : (str []).toList.isEmpty = true := by rw [str_list]; rfl
            go_wp2_with fail
            refine (done_bad wr g hbq).mono ?_
            rintro e wb ⟨rfl, rfl⟩
            go_wp2
            exact ⟨⟨j + 1, by omega, by go_num, hbq, hgq⟩, by simp [intOf]; omega⟩
          · have hd3 : decide ((j : Int) < (m : Int) % 9) = false := by simp; omega
            have hgs := hgq.size
            have hor : Rd wr w2.heap.size o l := ho3.keep fun k h1 h2 => hgq.block k (by have := Hs3.out; omega) (fun h => by injection h with h; omega)
            have hlr : Bts wr 0 w.heap.size a0 n0 l := (hl2.below hb3 (by omega)).keep fun k _ h2 => hgq.block k (by omega) (fun h => by injection h with h; omega)
            have hbw : Below w.heap.size w wr := ((hb1.trans (hb2.mono z1)).trans (hb3.mono (by omega))).grown hgq (by omega) (fun k hk => by injection hk with hk; omega)
            have hog : w.heap.size ≤ o := by obtain ⟨_, _, _, _, _, h, _⟩ := ho3; omega
            have hen := hl.len
            cases l with
            | nil =>
              have hn : n0 = 0 := by simpa using hen.symm
              clear hen
              subst hn
              go_wp2_with fail
              refine (byte_end wr _ o hor).mono ?_
              rintro e wb ⟨rfl, hbo, hgo2⟩
              go_wp2
              go_ret
              exact ⟨rfl, hbw.grown hgo2 (by omega) (fun k hk => by injection hk with hk; omega)⟩
            | cons b l =>
              have hn : 0 < n0 := by simp at hen; omega
              clear hen
              have hd4 : decide ((0 : Int) < (n0 : Int)) = true := by simp; omega
              go_wp2_with fail
              refine (byte_good wr _ o b l hor).mono ?_
              rintro e wb ⟨rfl, hbo, hgo2⟩
              have hlb : Bts wb 0 w.heap.size a0 n0 (b :: l) := hlr.keep fun k _ h2 => hgo2.block k (by omega) (fun h => by injection h with h; omega)
              obtain ⟨g', off, rfl, _, _, hcell⟩ := hlb.at_ hn
              simp at hcell
              have hpos : (0 : Int) < (n0 : Int) := by omega
              go_wp2
              go_ret
              exact ⟨rfl, hbw.grown hgo2 (by omega) (fun k hk => by injection hk with hk; omega)⟩
end Go.Proofs.Ytabdkhlpickjiaa
