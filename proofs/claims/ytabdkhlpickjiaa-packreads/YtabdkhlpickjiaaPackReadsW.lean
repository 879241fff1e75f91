/- The walk of PackReads: it answers true, whatever the input. -/
import Derived.Test.YtabdkhlpickjiaaPkRef
import Derived.Test.YtabdkhlpickjiaaFrame
namespace Go.Proofs.Ytabdkhlpickjiaa
open Go.RowKit

def PRel (w : World) (lo g : Nat) (r b : Value) (wr : World) : Prop :=
  ∃ A n c l, r = .slice A n c ∧ n ≤ c ∧ c ≤ 9223372036854775807 ∧ Bts wr 0 w.heap.size A n l ∧ Below w.heap.size w wr ∧ ((b = .bool false ∧ Rd wr lo g l) ∨ (b = .bool true ∧ Bad wr g))

set_option maxRecDepth 100000 in
set_option maxHeartbeats 8000000 in
theorem walkPackReads (a0 : Option Addr) (n0 c0 : Nat) (z0 : List Int) (a1 : Option Addr) (n1 c1 : Nat) (z1 : List Int) (w : World) (w0 : IsRow .u8 w a0 n0 c0 z0) (w1 : IsRow .u8 w a1 n1 c1 z1) :
    Calls Try.prog 4 #[.slice a0 n0 c0, .slice a1 n1 c1] w fun e w' => e = .returned (.bool true) ∧ Below w.heap.size w w' := by
  obtain ⟨l, hl, hnc, hcm⟩ := argB w0
  obtain ⟨q, hq, hqc, hqm⟩ := argB w1
  unfold maxLen at hcm hqm
  clear w0 w1
  by_cases hbig : 2000 < n0 ∨ 200 < n1
  · have hcase : decide ((2000 : Int) < (n0 : Int)) = true ∨ (decide ((2000 : Int) < (n0 : Int)) = false ∧ decide ((200 : Int) < (n1 : Int)) = true) := by
      rcases hbig with h | h
      · left; simp; omega
      · by_cases h2 : 2000 < n0
        · left; simp; omega
        · right; constructor <;> simp <;> omega
    rcases hcase with hd | ⟨hd, hd2⟩
    all_goals
      go_enter Try.func4, Try.ntmps4
      go_wp2_with fail
      refine (first_c w).mono ?_
      rintro e w1 ⟨rfl, hb1⟩
      go_wp2
      go_ret
      exact ⟨rfl, hb1⟩
  · have hd : decide ((2000 : Int) < (n0 : Int)) = false := by simp; omega
    have hd2 : decide ((200 : Int) < (n1 : Int)) = false := by simp; omega
    have hle0 : n0 ≤ 2000 := by omega
    have hle1 : n1 ≤ 200 := by omega
    clear hbig
    go_enter Try.func4, Try.ntmps4
    go_wp2_with fail
    refine (first_c w).mono ?_
    rintro e w1 ⟨rfl, hb1⟩
    have z1 := hb1.size
    have hl1 : Bts w1 0 w.heap.size a0 n0 l := hl.below hb1 (Nat.le_refl _)
    have hown : (w1.alloc (.cells #[] 5)).ownsRow w1.heap.size 5 1 (.slice (some ⟨w1.heap.size, 0, none⟩) 0 0) 0 [] := World.ownsRow_lit w1 #[] 0 (Nat.le_refl _) (by decide) rfl
    have hl1' : Lst (w1.alloc (.cells #[] 5)) 0 w.heap.size a0 n0 (bs l) := (hl1.keep fun k _ h2 => Below.heap_alloc w1 _ k (by omega)).lst
    go_wp2_with (at_builtin; refine wpList_appL _ rfl _ _ 22 rfl w1.heap.size 5 (.int .u8 0) 1 Try.underlying22 Try.info5 rfl _ _ _ _ rfl hown _ _ _ _ _ _ rfl hl1' (bs_one _) (by omega) (by unfold maxLen; omega) (by simp) ?_)
    intro A2 c2 w2 hc2 hown2 _ hbB z2
    have hb2 : Below w.heap.size w w2 := hb1.trans (((Below.refl _ _).alloc z1 _).trans (hbB.mono z1))
    clear hbB hl1' hown hl1
    go_wp2_with fail
    refine (open_c A2 n0 c2 l w2 ((Bts.own hown2).wide (Nat.zero_le _) (Nat.le_refl _)) (by omega)).mono ?_
    rintro e w3 ⟨g, rfl, hr3, hs3, hb3⟩
    have z3 := hb3.size
    have hgz : w2.heap.size ≤ g := by obtain ⟨_, _, _, _, _, h, _⟩ := hr3; exact h
    have hbw3 : Below w.heap.size w w3 := hb2.trans (hb3.mono (by omega))
    have hown3 : w3.ownsRow w1.heap.size 5 1 (.slice A2 n0 c2) n0 (bs l) := by
      refine ⟨hown2.1, ?_⟩
      rcases hown2.2 with h | ⟨g', cap, cur, hv, hb, hg, hr⟩
      · exact .inl h
      · exact .inr ⟨g', cap, cur, hv, hb, (hb3.block g' (Array.getElem?_eq_some_iff.1 hg).1).trans hg, hr⟩
    have hA2 : ∀ g', 0 < n0 → A2 = some ⟨g', 0, none⟩ → g' < w2.heap.size := by
      intro g' h0 h
      obtain ⟨g2, h2, _, h4, _⟩ := own_some hown2 h0
      rw [h] at h2
      injection h2 with h2
      injection h2 with h2
      omega
    have HA2 := hid hA2
    clear hA2 hown2 hs3 hb3
    obtain ⟨lo, hlo⟩ : ∃ lo, lo = w2.heap.size := ⟨_, rfl⟩
    rw [← hlo] at hr3 hgz HA2 z2
    clear hlo
    go_wp2_with fail
    go_loopw [44] (fun i wr => ∃ (k : Nat) (l2 : List UInt8), k ≤ n0 ∧ i = .int .i64 (k : Int) ∧ l2.length = n0 ∧ wr.ownsRow w1.heap.size 5 1 (.slice A2 n0 c2) n0 (bs l2) ∧ Rd wr lo g l ∧ Below w.heap.size w wr) (fun i _ => n0 - (intOf i).toNat)
    case atStart => exact ⟨0, l, Nat.zero_le _, rfl, hl.len, hown3, hr3, hbw3⟩
    case round =>
      clear hown3 hr3 hbw3 hb2 z3
      obtain ⟨k, l2, hk, rfl, hl2, hown3, hr3, hbw3⟩ := hrel
      by_cases hlt : k < n0
      · obtain ⟨g2, rfl, hg2, hg2z, hfr⟩ := own_some hown3 (by omega)
        have hg2lo := HA2.out g2 (by omega) rfl
        have hcell : wr.cell? ⟨g2, k, none⟩ = some (.int .u8 ((l2[k]'(by omega)).toNat : Int)) := by
          rw [hown3.cellAt k (by omega)]
          exact bs_get l2 k (by omega)
        have hf := hfr k
        have hst := fun u => own_store (k := k) hown3 u
        generalize l2[k]'(by omega) = bb at *
        have e1 := xor255 bb
        have Hst := hid hst
        have HL2 := hid hl2
        clear hst hl2 hfr
        go_wp2
        refine ⟨⟨k + 1, l2.set k (255 - bb), by omega, by go_num, by simpa using HL2.out, ?_, ?_, ?_⟩, by simp [intOf]; omega⟩
        · rw [← bs_set]; exact Hst.out _
        · exact hr3.keep fun j h1 h2 => Below.heap_setCell wr _ _ j (by simp; omega)
        · exact hbw3.setCell (by simp; omega) _
      · clear hown3 hl2 HA2
        go_wp2_with fail
        go_loopw [57, 8, 9] (fun i r b wr => ∃ (k : Nat), k ≤ n1 ∧ i = .int .i64 (k : Int) ∧ PRel w lo g r b wr) (fun i _ _ _ => n1 - (intOf i).toNat)
        case atStart => exact ⟨0, Nat.zero_le _, rfl, a0, n0, c0, l, rfl, hnc, by omega, hl.below hbw3 (Nat.le_refl _), hbw3, .inl ⟨rfl, hr3⟩⟩
        case round =>
          clear hr3 hbw3
          obtain ⟨k2, hk2, rfl, A, n, c, l', rfl, hnc', hc', hbt, hbw, hst⟩ := hrel
          by_cases hlt : k2 < n1
          · obtain ⟨ga, offa, rfl, _, _, hcell⟩ := (hq.below hbw (Nat.le_refl _)).at_ hlt
            generalize q[k2]'(by rw [hq.len]; exact hlt) = aa at *
            have ha256 := aa.toNat_lt
            have hxlt := rd_lt l'
            have hyle : (rd l').2 ≤ n := by rw [← hbt.len]; exact rd_le l'
            have hread := refRead_c A n c l' wr _ _ hbt (by omega)
            have ha4 : aa.toNat % 4 < 4 := by omega
            rcases hst with ⟨rfl, hrd⟩ | ⟨rfl, hbad⟩
            · have hcs : aa.toNat % 4 = 0 ∨ aa.toNat % 4 = 1 ∨ aa.toNat % 4 = 2 ∨ aa.toNat % 4 = 3 := by omega
              rcases hcs with ha | ha | ha | ha
              · rcases Nat.eq_zero_or_pos (rd l').2 with hy0 | hy0
                · as_aux_lemma =>
                  have f0 : ((aa.toNat : Int) % 4 == 0) = true := by simp; omega
                  have hmeth := rnat_none wr lo g l' hrd hy0
                  rw [hy0] at hread
                  generalize (rd l').1 = x at *
                  clear ha hy0 hyle
                  go_wp2_with fail
                  refine hread.mono ?_
                  rintro e wb ⟨rfl, rfl⟩
                  go_wp2_with fail
                  refine hmeth.mono ?_
                  rintro e wb ⟨rfl, hbad, hgr⟩
                  have hgl := hrd.lt
                  have hbt2 : Bts wb 0 w.heap.size A _ l' := hbt.keep fun j _ h2 => hgr.block j (by omega) (fun h => by injection h with h; omega)
                  have hbw2 : Below w.heap.size w wb := hbw.grown hgr hbw.size (fun j hj => by injection hj with hj; omega)
                  go_wp2_with fail
                  refine (done_bad wb g hbad).mono ?_
                  rintro e wb2 ⟨rfl, rfl⟩
                  go_wp2
                  exact ⟨⟨k2 + 1, by omega, by go_num, A, _, c, l', rfl, hnc', hc', hbt2, hbw2, .inr ⟨rfl, hbad⟩⟩, by simp [intOf]; omega⟩
                · as_aux_lemma =>
                  have f0 : ((aa.toNat : Int) % 4 == 0) = true := by simp; omega
                  have hmeth := rnat_some wr lo g l' hrd hy0
                  generalize (rd l').2 = y at *
                  generalize (rd l').1 = x at *
                  clear ha
                  go_wp2_with fail
                  refine hread.mono ?_
                  rintro e wb ⟨rfl, rfl⟩
                  go_wp2_with fail
                  refine hmeth.mono ?_
                  rintro e wb ⟨rfl, hrd2, hgr⟩
                  have hgl := hrd.lt
                  have hbt2 : Bts wb 0 w.heap.size A n l' := hbt.keep fun j _ h2 => hgr.block j (by omega) (fun h => by injection h with h; omega)
                  have hbw2 : Below w.heap.size w wb := hbw.grown hgr hbw.size (fun j hj => by injection hj with hj; omega)
                  have hcut := hid (hbt2.cut (k := y) hyle hnc')
                  have hdn := done_good wb lo g _ hrd2
                  go_wp2_with fail
                  all_goals
                    refine hdn.mono ?_
                    rintro e wb2 ⟨rfl, rfl⟩
                    clear hread hmeth hdn
                    have hcase : ((l'.drop y).isEmpty = true ∧ (((n - y : Nat) : Int) == 0) = true) ∨ ((l'.drop y).isEmpty = false ∧ (((n - y : Nat) : Int) == 0) = false) := by
                      have hlen := hcut.out.len
                      by_cases h0 : n - y = 0
                      · left
                        exact ⟨by rw [List.isEmpty_iff]; exact List.eq_nil_of_length_eq_zero (by omega), by simp; omega⟩
                      · right
                        refine ⟨?_, by simp; omega⟩
                        cases hh : l'.drop y with
                        | nil => rw [hh] at hlen; simp at hlen; omega
                        | cons b r => rfl
                    rcases hcase with ⟨g1, g2⟩ | ⟨g1, g2⟩
                    all_goals
                      go_wp2
                      all_goals refine ⟨⟨k2 + 1, by omega, by go_num, _, _, _, l'.drop y, rfl, by omega, by omega, ?_, hbw2, .inl ⟨rfl, hrd2⟩⟩, by simp [intOf]; omega⟩
                      all_goals
                        have := hcut.out
                        simpa [h] using this
              · rcases Nat.eq_zero_or_pos (rd l').2 with hy0 | hy0
                · as_aux_lemma =>
                  have f0 : ((aa.toNat : Int) % 4 == 0) = false := by simp; omega
                  have f1 : ((aa.toNat : Int) % 4 == 1) = true := by simp; omega
                  have hmeth := rnum_none wr lo g l' hrd hy0
                  rw [hy0] at hread
                  generalize (rd l').1 = x at *
                  clear ha hy0 hyle
                  go_wp2_with fail
                  refine hread.mono ?_
                  rintro e wb ⟨rfl, rfl⟩
                  go_wp2_with fail
                  refine hmeth.mono ?_
                  rintro e wb ⟨rfl, hbad, hgr⟩
                  have hgl := hrd.lt
                  have hbt2 : Bts wb 0 w.heap.size A _ l' := hbt.keep fun j _ h2 => hgr.block j (by omega) (fun h => by injection h with h; omega)
                  have hbw2 : Below w.heap.size w wb := hbw.grown hgr hbw.size (fun j hj => by injection hj with hj; omega)
                  go_wp2_with fail
                  refine (done_bad wb g hbad).mono ?_
                  rintro e wb2 ⟨rfl, rfl⟩
                  go_wp2
                  exact ⟨⟨k2 + 1, by omega, by go_num, A, _, c, l', rfl, hnc', hc', hbt2, hbw2, .inr ⟨rfl, hbad⟩⟩, by simp [intOf]; omega⟩
                · as_aux_lemma =>
                  have f0 : ((aa.toNat : Int) % 4 == 0) = false := by simp; omega
                  have f1 : ((aa.toNat : Int) % 4 == 1) = true := by simp; omega
                  have hmeth := rnum_some wr lo g l' hrd hy0
                  generalize (rd l').2 = y at *
                  generalize (rd l').1 = x at *
                  clear ha
                  go_wp2_with fail
                  refine hread.mono ?_
                  rintro e wb ⟨rfl, rfl⟩
                  go_wp2_with fail
                  refine hmeth.mono ?_
                  rintro e wb ⟨rfl, hrd2, hgr⟩
                  have hgl := hrd.lt
                  have hbt2 : Bts wb 0 w.heap.size A n l' := hbt.keep fun j _ h2 => hgr.block j (by omega) (fun h => by injection h with h; omega)
                  have hbw2 : Below w.heap.size w wb := hbw.grown hgr hbw.size (fun j hj => by injection hj with hj; omega)
                  have hcut := hid (hbt2.cut (k := y) hyle hnc')
                  have hdn := done_good wb lo g _ hrd2
                  go_wp2_with fail
                  refine (refUnfolded_c x wb hxlt).mono ?_
                  rintro e wb3 ⟨rfl, rfl⟩
                  go_wp2_with fail
                  all_goals
                    refine hdn.mono ?_
                    rintro e wb2 ⟨rfl, rfl⟩
                    clear hread hmeth hdn
                    have hcase : ((l'.drop y).isEmpty = true ∧ (((n - y : Nat) : Int) == 0) = true) ∨ ((l'.drop y).isEmpty = false ∧ (((n - y : Nat) : Int) == 0) = false) := by
                      have hlen := hcut.out.len
                      by_cases h0 : n - y = 0
                      · left
                        exact ⟨by rw [List.isEmpty_iff]; exact List.eq_nil_of_length_eq_zero (by omega), by simp; omega⟩
                      · right
                        refine ⟨?_, by simp; omega⟩
                        cases hh : l'.drop y with
                        | nil => rw [hh] at hlen; simp at hlen; omega
                        | cons b r => rfl
                    rcases hcase with ⟨g1, g2⟩ | ⟨g1, g2⟩
                    all_goals
                      go_wp2
                      all_goals refine ⟨⟨k2 + 1, by omega, by go_num, _, _, _, l'.drop y, rfl, by omega, by omega, ?_, hbw2, .inl ⟨rfl, hrd2⟩⟩, by simp [intOf]; omega⟩
                      all_goals
                        have := hcut.out
                        simpa [h] using this
              · rcases Nat.eq_zero_or_pos (rd l').2 with hy0 | hy0
                · as_aux_lemma =>
                  have f0 : ((aa.toNat : Int) % 4 == 0) = false := by simp; omega
                  have f1 : ((aa.toNat : Int) % 4 == 1) = false := by simp; omega
                  have f2 : ((aa.toNat : Int) % 4 == 2) = true := by simp; omega
                  have hse : (str []).toList.isEmpty = true := by rw [str_list]; rfl
                  have hmeth := rtxt_none wr lo g l' hrd hy0
                  rw [hy0] at hread
                  generalize (rd l').1 = x at *
                  clear ha hy0 hyle
                  go_wp2_with fail
                  refine hread.mono ?_
                  rintro e wb ⟨rfl, rfl⟩
                  go_wp2_with fail
                  refine hmeth.mono ?_
                  rintro e wb ⟨rfl, hbad, hgr⟩
                  have hgl := hrd.lt
                  have hbt2 : Bts wb 0 w.heap.size A _ l' := hbt.keep fun j _ h2 => hgr.block j (by omega) (fun h => by injection h with h; omega)
                  have hbw2 : Below w.heap.size w wb := hbw.grown hgr hbw.size (fun j hj => by injection hj with hj; omega)
                  go_wp2_with fail
                  refine (done_bad wb g hbad).mono ?_
                  rintro e wb2 ⟨rfl, rfl⟩
                  go_wp2
                  exact ⟨⟨k2 + 1, by omega, by go_num, A, _, c, l', rfl, hnc', hc', hbt2, hbw2, .inr ⟨rfl, hbad⟩⟩, by simp [intOf]; omega⟩
                · rcases Nat.lt_or_ge (n - (rd l').2) (rd l').1 with hlong | hlong
                  · as_aux_lemma =>
                    have f0 : ((aa.toNat : Int) % 4 == 0) = false := by simp; omega
                    have f1 : ((aa.toNat : Int) % 4 == 1) = false := by simp; omega
                    have f2 : ((aa.toNat : Int) % 4 == 2) = true := by simp; omega
                    have hse : (str []).toList.isEmpty = true := by rw [str_list]; rfl
                    have hlen := hbt.len
                    have hfl : (l'.drop (rd l').2).length = n - (rd l').2 := by rw [List.length_drop, hlen]
                    have hmeth := rtxt_long wr lo g l' hrd hy0 (by rw [hfl]; exact hlong)
                    generalize (rd l').2 = y at *
                    generalize (rd l').1 = x at *
                    clear ha hlen hfl
                    have d1 : decide ((x : Int) ≤ (n : Int) - (y : Int)) = false := by simp; omega
                    go_wp2_with fail
                    refine hread.mono ?_
                    rintro e wb ⟨rfl, rfl⟩
                    go_wp2_with fail
                    refine hmeth.mono ?_
                    rintro e wb ⟨rfl, hbad, hgr⟩
                    have hgl := hrd.lt
                    have hbt2 : Bts wb 0 w.heap.size A _ l' := hbt.keep fun j _ h2 => hgr.block j (by omega) (fun h => by injection h with h; omega)
                    have hbw2 : Below w.heap.size w wb := hbw.grown hgr hbw.size (fun j hj => by injection hj with hj; omega)
                    go_wp2_with fail
                    refine (done_bad wb g hbad).mono ?_
                    rintro e wb2 ⟨rfl, rfl⟩
                    go_wp2
                    exact ⟨⟨k2 + 1, by omega, by go_num, A, _, c, l', rfl, hnc', hc', hbt2, hbw2, .inr ⟨rfl, hbad⟩⟩, by simp [intOf]; omega⟩
                  · as_aux_lemma =>
                    have f0 : ((aa.toNat : Int) % 4 == 0) = false := by simp; omega
                    have f1 : ((aa.toNat : Int) % 4 == 1) = false := by simp; omega
                    have f2 : ((aa.toNat : Int) % 4 == 2) = true := by simp; omega
                    have hlen := hbt.len
                    have hfl : (l'.drop (rd l').2).length = n - (rd l').2 := by rw [List.length_drop, hlen]
                    have hmeth := rtxt_some wr lo g l' hrd hy0 (by rw [hfl]; exact hlong)
                    generalize (rd l').2 = y at *
                    generalize (rd l').1 = x at *
                    clear ha hlen hfl
                    rw [List.drop_drop] at hmeth
                    have d1 : decide ((x : Int) ≤ (n : Int) - (y : Int)) = true := by simp; omega
                    have hbc := (hbt.cut (k := y) hyle hnc').take (k := x) (by omega)
                    have hyx : y + x ≤ n := by omega
                    have hs1 := run_str (P := Try.prog) (c := c - y) 22 9 5 Try.underlying22 Try.underlying5 Try.underlying9 hbc
                    go_wp2_with fail
                    refine hread.mono ?_
                    rintro e wb ⟨rfl, rfl⟩
                    go_wp2_with fail

                    all_goals
                      refine hmeth.mono ?_
                      rintro e wb ⟨rfl, hrd2, hgr⟩
                      have hgl := hrd.lt
                      have hbt2 : Bts wb 0 w.heap.size A n l' := hbt.keep fun j _ h2 => hgr.block j (by omega) (fun h => by injection h with h; omega)
                      have hbw2 : Below w.heap.size w wb := hbw.grown hgr hbw.size (fun j hj => by injection hj with hj; omega)
                      have hcut := hid (hbt2.cut (k := y + x) hyx hnc')
                      have hdn := done_good wb lo g _ hrd2
                      clear hs1
                      go_wp2_with fail
                      all_goals
                        refine hdn.mono ?_
                        rintro e wb2 ⟨rfl, rfl⟩
                        clear hread hmeth hdn
                        have hcase : ((l'.drop (y + x)).isEmpty = true ∧ (((n - (y + x) : Nat) : Int) == 0) = true) ∨ ((l'.drop (y + x)).isEmpty = false ∧ (((n - (y + x) : Nat) : Int) == 0) = false) := by
                          have hlen := hcut.out.len
                          by_cases h0 : n - (y + x) = 0
                          · left
                            exact ⟨by rw [List.isEmpty_iff]; exact List.eq_nil_of_length_eq_zero (by omega), by simp; omega⟩
                          · right
                            refine ⟨?_, by simp; omega⟩
                            cases hh : l'.drop (y + x) with
                            | nil => rw [hh] at hlen; simp at hlen; omega
                            | cons b r => rfl
                        rcases hcase with ⟨g1, g2⟩ | ⟨g1, g2⟩
                        all_goals
                          go_wp2
                          all_goals refine ⟨⟨k2 + 1, by omega, by go_num, _, _, _, (l'.drop (y + x)), rfl, by omega, by omega, ?_, hbw2, .inl ⟨rfl, hrd2⟩⟩, by simp [intOf]; omega⟩
                          all_goals
                            first
                            | (have := hcut.out; simpa [h] using this; done)
                            | (have hz0 : n - (y + x) = 0 := by omega
                               have hl0 : (l'.drop (y + x)) = [] := List.eq_nil_of_length_eq_zero (by have := hcut.out.len; omega)
                               rw [hz0, hl0]; exact Bts.nil _ _ _ _)
              · rcases Nat.eq_zero_or_pos n with hn0 | hn0
                · as_aux_lemma =>
                  have f0 : ((aa.toNat : Int) % 4 == 0) = false := by simp; omega
                  have f1 : ((aa.toNat : Int) % 4 == 1) = false := by simp; omega
                  have f2 : ((aa.toNat : Int) % 4 == 2) = false := by simp; omega
                  have hl0 : l' = [] := List.eq_nil_of_length_eq_zero (by rw [hbt.len]; exact hn0)
                  subst hl0
                  subst hn0
                  have hmeth := byte_end wr lo g hrd
                  have hr0 : rd [] = (0, 0) := rfl
                  rw [hr0] at hread
                  clear ha hyle hxlt hr0
                  go_wp2_with fail
                  refine hread.mono ?_
                  rintro e wb ⟨rfl, rfl⟩
                  go_wp2_with fail
                  refine hmeth.mono ?_
                  rintro e wb ⟨rfl, hbad, hgr⟩
                  have hgl := hrd.lt
                  have hbt2 : Bts wb 0 w.heap.size A _ [] := hbt.keep fun j _ h2 => hgr.block j (by omega) (fun h => by injection h with h; omega)
                  have hbw2 : Below w.heap.size w wb := hbw.grown hgr hbw.size (fun j hj => by injection hj with hj; omega)
                  go_wp2_with fail
                  refine (done_bad wb g hbad).mono ?_
                  rintro e wb2 ⟨rfl, rfl⟩
                  go_wp2
                  exact ⟨⟨k2 + 1, by omega, by go_num, A, _, c, [], rfl, hnc', hc', hbt2, hbw2, .inr ⟨rfl, hbad⟩⟩, by simp [intOf]; omega⟩
                · as_aux_lemma =>
                  have f0 : ((aa.toNat : Int) % 4 == 0) = false := by simp; omega
                  have f1 : ((aa.toNat : Int) % 4 == 1) = false := by simp; omega
                  have f2 : ((aa.toNat : Int) % 4 == 2) = false := by simp; omega
                  obtain ⟨b, r, hbr⟩ : ∃ b r, l' = b :: r := by
                    cases l' with
                    | nil => have := hbt.len; simp at this; omega
                    | cons b r => exact ⟨b, r, rfl⟩
                  have hrd0 := hrd
                  rw [hbr] at hrd0
                  have hmeth := byte_good wr lo g b r hrd0
                  have hdr : Hid (r = l'.drop 1) := by rw [hbr]; rfl
                  have hb0 := hbt
                  rw [hbr] at hb0
                  obtain ⟨gb, ob, rfl, _, hgb, hcb⟩ := hb0.at_ hn0
                  simp at hcb
                  clear hrd0 hbr hb0 ha hyle hxlt
                  have hd0 : (0 : Int) < (n : Int) := by omega
                  rcases Nat.eq_zero_or_pos (rd l').2 with hy0 | hy0
                  all_goals
                    generalize (rd l').1 = x at *
                    (try rw [hy0] at hread)
                    generalize (rd l').2 = y at *
                    go_wp2_with fail
                    refine hread.mono ?_
                    rintro e wb ⟨rfl, rfl⟩
                    go_wp2_with fail
                    refine hmeth.mono ?_
                    rintro e wb ⟨rfl, hrd2, hgr⟩
                    have hgl := hrd.lt
                    have hbt2 : Bts wb 0 w.heap.size (some ⟨gb, ob, none⟩) n l' := hbt.keep fun j _ h2 => hgr.block j (by omega) (fun h => by injection h with h; omega)
                    have hbw2 : Below w.heap.size w wb := hbw.grown hgr hbw.size (fun j hj => by injection hj with hj; omega)
                    have hcb2 : wb.cell? ⟨gb, ob, none⟩ = some (.int .u8 (b.toNat : Int)) := by
                      rw [← hcb]
                      exact World.cell?_of_block (hgr.block gb (by omega) (fun h => by injection h with h; omega))
                    have hcut : Hid (Bts wb 0 w.heap.size (some ⟨gb, ob + 1, none⟩) (n - 1) r) := by rw [hdr.out]; exact hbt2.drop 1
                    have hdn := done_good wb lo g _ hrd2
                    go_wp2_with fail
                    all_goals
                      refine hdn.mono ?_
                      rintro e wb2 ⟨rfl, rfl⟩
                      clear hread hmeth hdn
                      have hcase : (r.isEmpty = true ∧ (((n - 1 : Nat) : Int) == 0) = true) ∨ (r.isEmpty = false ∧ (((n - 1 : Nat) : Int) == 0) = false) := by
                        have hlen := hcut.out.len
                        by_cases h0 : n - 1 = 0
                        · left
                          exact ⟨by rw [List.isEmpty_iff]; exact List.eq_nil_of_length_eq_zero (by omega), by simp; omega⟩
                        · right
                          refine ⟨?_, by simp; omega⟩
                          cases hh : r with
                          | nil => rw [hh] at hlen; simp at hlen; omega
                          | cons b r => rfl
                      rcases hcase with ⟨g1, g2⟩ | ⟨g1, g2⟩
                      all_goals
                        go_wp2
                        all_goals refine ⟨⟨k2 + 1, by omega, by go_num, _, _, _, r, rfl, by omega, by omega, ?_, hbw2, .inl ⟨rfl, hrd2⟩⟩, by simp [intOf]; omega⟩
                        all_goals
                          first
                          | exact hcut.out
                          | (have hz0 : n - 1 = 0 := by omega
                             have hl0 : r = [] := List.eq_nil_of_length_eq_zero (by have := hcut.out.len; omega)
                             rw [hz0, hl0]; exact Bts.nil _ _ _ _)
            · clear hyle
              generalize (rd l').2 = y at *
              generalize (rd l').1 = x at *
              have hcs : aa.toNat % 4 = 0 ∨ aa.toNat % 4 = 1 ∨ aa.toNat % 4 = 2 ∨ aa.toNat % 4 = 3 := by omega
              rcases hcs with ha | ha | ha | ha
              · rcases Nat.eq_zero_or_pos y with rfl | hy0
                all_goals as_aux_lemma =>
                  have f0 : ((aa.toNat : Int) % 4 == 0) = true := by simp; omega
                  clear ha
                  go_wp2_with fail
                  refine hread.mono ?_
                  rintro e wb ⟨rfl, rfl⟩
                  go_wp2_with fail
                  refine (rnat_bad wr g hbad).mono ?_
                  rintro e wb ⟨rfl, rfl⟩
                  go_wp2_with fail
                  refine (done_bad wr g hbad).mono ?_
                  rintro e wb ⟨rfl, rfl⟩
                  go_wp2
                  exact ⟨⟨k2 + 1, by omega, by go_num, A, _, c, l', rfl, hnc', hc', hbt, hbw, .inr ⟨rfl, hbad⟩⟩, by simp [intOf]; omega⟩
              · rcases Nat.eq_zero_or_pos y with rfl | hy0
                all_goals as_aux_lemma =>
                  have f0 : ((aa.toNat : Int) % 4 == 0) = false := by simp; omega
                  have f1 : ((aa.toNat : Int) % 4 == 1) = true := by simp; omega
                  clear ha
                  go_wp2_with fail
                  refine hread.mono ?_
                  rintro e wb ⟨rfl, rfl⟩
                  go_wp2_with fail
                  refine (rnum_bad wr g hbad).mono ?_
                  rintro e wb ⟨rfl, rfl⟩
                  go_wp2_with fail
                  refine (done_bad wr g hbad).mono ?_
                  rintro e wb ⟨rfl, rfl⟩
                  go_wp2
                  exact ⟨⟨k2 + 1, by omega, by go_num, A, _, c, l', rfl, hnc', hc', hbt, hbw, .inr ⟨rfl, hbad⟩⟩, by simp [intOf]; omega⟩
              · rcases Nat.eq_zero_or_pos y with rfl | hy0
                all_goals as_aux_lemma =>
                  have f0 : ((aa.toNat : Int) % 4 == 0) = false := by simp; omega
                  have f1 : ((aa.toNat : Int) % 4 == 1) = false := by simp; omega
                  have f2 : ((aa.toNat : Int) % 4 == 2) = true := by simp; omega
                  have hse : (str []).toList.isEmpty = true := by rw [str_list]; rfl
                  clear ha
                  go_wp2_with fail
                  refine hread.mono ?_
                  rintro e wb ⟨rfl, rfl⟩
                  go_wp2_with fail
                  refine (rtxt_bad wr g hbad).mono ?_
                  rintro e wb ⟨rfl, rfl⟩
                  go_wp2_with fail
                  refine (done_bad wr g hbad).mono ?_
                  rintro e wb ⟨rfl, rfl⟩
                  go_wp2
                  exact ⟨⟨k2 + 1, by omega, by go_num, A, _, c, l', rfl, hnc', hc', hbt, hbw, .inr ⟨rfl, hbad⟩⟩, by simp [intOf]; omega⟩
              · rcases Nat.eq_zero_or_pos n with rfl | hn0
                all_goals
                  rcases Nat.eq_zero_or_pos y with rfl | hy0
                  all_goals as_aux_lemma =>
                    have f0 : ((aa.toNat : Int) % 4 == 0) = false := by simp; omega
                    have f1 : ((aa.toNat : Int) % 4 == 1) = false := by simp; omega
                    have f2 : ((aa.toNat : Int) % 4 == 2) = false := by simp; omega
                    clear ha
                    go_wp2_with fail
                    refine hread.mono ?_
                    rintro e wb ⟨rfl, rfl⟩
                    go_wp2_with fail
                    refine (byte_bad wr g hbad).mono ?_
                    rintro e wb ⟨rfl, rfl⟩
                    go_wp2_with fail
                    refine (done_bad wr g hbad).mono ?_
                    rintro e wb ⟨rfl, rfl⟩
                    go_wp2
                    exact ⟨⟨k2 + 1, by omega, by go_num, A, _, c, l', rfl, hnc', hc', hbt, hbw, .inr ⟨rfl, hbad⟩⟩, by simp [intOf]; omega⟩
          · go_wp2_with fail
            refine (byte_nil wr).mono ?_
            rintro e wb ⟨rfl, rfl⟩
            go_wp2_with fail
            refine (done_nil wr).mono ?_
            rintro e wb ⟨rfl, rfl⟩
            go_wp2
            go_ret
            exact ⟨rfl, hbw⟩
end Go.Proofs.Ytabdkhlpickjiaa
