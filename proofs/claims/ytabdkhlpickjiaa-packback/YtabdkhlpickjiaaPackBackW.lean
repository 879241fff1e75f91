/- The walk of PackBack: it answers true, whatever the input. -/
import Derived.Test.YtabdkhlpickjiaaPkFirst
import Derived.Test.YtabdkhlpickjiaaFrame
namespace Go.Proofs.Ytabdkhlpickjiaa
open Go.RowKit

/-- A number as uint64 has it. -/
def uw (n : Int) : Nat := (IntKind.u64.wrap n).toNat
theorem uw_lt (n : Int) : uw n < 18446744073709551616 := by unfold uw; rw [IntKind.wrap_u64]; omega
theorem uw_eq (n : Int) : IntKind.u64.wrap n = (uw n : Int) := by unfold uw; rw [IntKind.wrap_u64]; omega
def encN (n : Int) : List UInt8 := nat (fold n) ++ nat (uw n)
def encI (ns : List Int) : List UInt8 := ns.flatMap encN
def encT (s : ByteArray) : List UInt8 := nat s.size ++ s.data.toList
def encS (ss : List ByteArray) : List UInt8 := ss.flatMap encT
theorem encI_snoc (ns : List Int) (n : Int) : encI (ns ++ [n]) = encI ns ++ nat (fold n) ++ nat (uw n) := by simp [encI, encN]
theorem encS_snoc (ss : List ByteArray) (s : ByteArray) : encS (ss ++ [s]) = encS ss ++ nat s.size ++ s.data.toList := by simp [encS, encT]
theorem encI_cons (n : Int) (ns : List Int) (r : List UInt8) : encI (n :: ns) ++ r = nat (fold n) ++ (nat (uw n) ++ (encI ns ++ r)) := by simp [encI, encN]
theorem encS_cons (s : ByteArray) (ss : List ByteArray) : encS (s :: ss) = nat s.size ++ (s.data.toList ++ encS ss) := by simp [encS, encT]

set_option maxRecDepth 100000 in
set_option maxHeartbeats 4000000 in
theorem walkPackBack (a0 : Option Addr) (n0 c0 : Nat) (z0 : List Int) (a1 : Option Addr) (n1 c1 : Nat) (z1 : List ByteArray) (w : World) (w0 : IsRow .i64 w a0 n0 c0 z0) (w1 : IsRowS w a1 n1 c1 z1) :
    Calls Try.prog 5 #[.slice a0 n0 c0, .slice a1 n1 c1] w fun e w' => e = .returned (.bool true) ∧ Below w.heap.size w w' := by
  obtain ⟨hN, hnc, hcm, hNwf, hNl⟩ := argI w0
  obtain ⟨hS, hsc, hscm, hSwf, hSl⟩ := argS w1
  generalize z0.take n0 = ns at *
  generalize z1.take n1 = ss at *
  clear w0 w1
  unfold maxLen at hcm hscm
  have HN := hid hNl
  have HS := hid hSl
  clear hNl hSl
  by_cases hbig : 200 < n0 ∨ 200 < n1
  · have hcase : decide ((200 : Int) < (n0 : Int)) = true ∨ (decide ((200 : Int) < (n0 : Int)) = false ∧ decide ((200 : Int) < (n1 : Int)) = true) := by
      rcases hbig with h | h
      · left; simp; omega
      · by_cases h2 : 200 < n0
        · left; simp; omega
        · right; constructor <;> simp <;> omega
    rcases hcase with hd | ⟨hd, hd2⟩
    all_goals
      go_enter Try.func5, Try.ntmps5
      go_wp2_with fail
      refine (first_c w).mono ?_
      rintro e w1 ⟨rfl, hb1⟩
      go_wp2
      go_ret
      exact ⟨rfl, hb1⟩
  · have hd : decide ((200 : Int) < (n0 : Int)) = false := by simp; omega
    have hd2 : decide ((200 : Int) < (n1 : Int)) = false := by simp; omega
    have hle0 : n0 ≤ 200 := by omega
    have hle1 : n1 ≤ 200 := by omega
    clear hbig
    go_enter Try.func5, Try.ntmps5
    go_wp2_with fail
    refine (first_c w).mono ?_
    rintro e w1 ⟨rfl, hb1⟩
    go_wp2_with fail
    go_loopw [33, 5] (fun i b wr => ∃ (k n c : Nat) (A : Option Addr), k ≤ n0 ∧ i = .int .i64 (k : Int) ∧ b = .slice A n c ∧ n ≤ 20 * k ∧ Bts wr 0 wr.heap.size A n (encI (ns.take k)) ∧ Below w.heap.size w wr) (fun i _ _ => n0 - (intOf i).toNat)
    case atStart => exact ⟨0, 0, 0, none, Nat.zero_le _, rfl, rfl, by omega, Bts.nil _ _ _ _, hb1⟩
    case round =>
      obtain ⟨k, n, c, A, hk, rfl, rfl, hn, hbt, hbel⟩ := hrel
      by_cases hlt : k < n0
      · have hkl : k < ns.length := by rw [HN.out]; exact hlt
        have hx := hNwf _ (List.getElem_mem hkl)
        obtain ⟨hx1, hx2⟩ := wf_i64 hx
        obtain ⟨g, off, rfl, _, _, hcell⟩ := (hN.below hbel (Nat.le_refl _)).at_ hlt
        rw [List.getElem_map] at hcell
        have htk := hid (List.take_succ_eq_append_getElem hkl)
        generalize ns[k] = x at *
        clear hx
        have e1 := uw_eq x
        have hu := uw_lt x
        have hE := hid (encI_snoc (ns.take k) x)
        rw [← htk.out] at hE
        generalize uw x = u at *
        have hf10 := nat_len_u64 (fold_lt hx1 hx2)
        have hu10 := nat_len_u64 hu
        generalize encI (ns.take k) = L at *
        go_wp2_with fail
        refine (number_c A n c x _ wr hbt (by omega) hx1 hx2).mono ?_
        rintro e w2 hrow
        obtain ⟨A2, n2, c2, rfl, hn2, hc2, ho2, hbt2, hb2⟩ := hrow.out
        have hn2' : n2 ≤ n + 10 := by have := hn2.out; have := hbt.len; simp at *; omega
        go_wp2_with fail
        refine (natural_c A2 n2 c2 u _ w2 (hbt2.wide (Nat.zero_le _) (Nat.le_refl _)) (by omega) hu).mono ?_
        rintro e w3 hrow
        obtain ⟨A3, n3, c3, rfl, hn3, hc3, ho3, hbt3, hb3⟩ := hrow.out
        have hn3' : n3 ≤ n2 + 10 := by have := hn3.out; have := hn2.out; simp at *; omega
        have hz := hbel.size
        have hz2 := hb2.size
        go_wp2
        refine ⟨⟨k + 1, n3, c3, A3, by omega, by go_num, rfl, by omega, ?_, (hbel.trans (hb2.mono hz)).trans (hb3.mono (by omega))⟩, by simp [intOf]; omega⟩
        rw [hE.out]
        exact hbt3.wide (Nat.zero_le _) (Nat.le_refl _)
      · have hkn : k = n0 := by omega
        subst hkn
        have htk : ns.take k = ns := List.take_of_length_le (by rw [HN.out]; exact Nat.le_refl _)
        rw [htk] at hbt
        clear htk hlt
        go_wp2_with fail
        go_loopw [47, 5] (fun i b wq => ∃ (j n c : Nat) (A : Option Addr), j ≤ n1 ∧ i = .int .i64 (j : Int) ∧ b = .slice A n c ∧ n ≤ 4000 + 220 * j ∧ Bts wq 0 wq.heap.size A n (encI ns ++ encS (ss.take j)) ∧ Below w.heap.size w wq ∧ Hid (∀ s ∈ ss.take j, s.size ≤ 200)) (fun i _ _ => n1 - (intOf i).toNat)
        case atStart => exact ⟨0, n, c, A, Nat.zero_le _, rfl, rfl, by omega, by simpa [encS] using hbt, hbel, by simp [Hid]⟩
        case round =>
          clear hbt hbel hn
          obtain ⟨j, n, c, A, hj, rfl, rfl, hn, hbt, hbel, hsm⟩ := hrel
          by_cases hlt : j < n1
          · have hjl : j < ss.length := by rw [HS.out]; exact hlt
            obtain ⟨g, off, rfl, _, _, hcell⟩ := (hS.below hbel (Nat.le_refl _)).at_ hlt
            rw [List.getElem_map] at hcell
            have htk := hid (List.take_succ_eq_append_getElem hjl)
            generalize ss[j] = x at *
            by_cases hx : 200 < x.size
            · have hd3 : decide ((200 : Int) < (x.size : Int)) = true := by simp; omega
              go_wp2
              go_ret
              exact ⟨rfl, hbel⟩
            · have hd3 : decide ((200 : Int) < (x.size : Int)) = false := by simp; omega
              have hE := hid (encS_snoc (ss.take j) x)
              have hsm2 : Hid (∀ s ∈ ss.take (j + 1), s.size ≤ 200) := by
                rw [htk.out]
                intro s hs
                rw [List.mem_append] at hs
                rcases hs with h | h
                · exact hsm.out s h
                · simp at h; subst h; omega
              rw [← htk.out] at hE
              have hu10 := nat_len_u64 (n := x.size) (by omega)
              generalize encS (ss.take j) = L at *
              generalize encI ns = M at *
              go_wp2_with fail
              refine (text_c A n c x _ wr hbt (by omega) (by omega)).mono ?_
              rintro e w2 hrow
              obtain ⟨A2, n2, c2, rfl, hn2, hc2, ho2, hbt2, hb2⟩ := hrow.out
              have hn2' : n2 ≤ n + 210 := by have := hn2.out; have := hbt.len; simp at *; omega
              have hz := hbel.size
              go_wp2
              refine ⟨⟨j + 1, n2, c2, A2, by omega, by go_num, rfl, by omega, ?_, hbel.trans (hb2.mono hz), hsm2⟩, by simp [intOf]; omega⟩
              rw [hE.out]
              have := hbt2.wide (Nat.zero_le _) (Nat.le_refl _)
              simpa using this
          · have hjn : j = n1 := by omega
            subst hjn
            have htk : ss.take j = ss := List.take_of_length_le (by rw [HS.out]; exact Nat.le_refl _)
            rw [htk] at hbt hsm
            clear htk hlt
            have hz := hbel.size
            go_wp2_with fail
            refine (open_c A n c _ wr hbt (by omega)).mono ?_
            rintro e w2 ⟨g, rfl, hr2, hs2, hb2⟩
            have hgz : wr.heap.size ≤ g := by obtain ⟨_, _, _, _, _, h, _⟩ := hr2; exact h
            have hbel2 : Below w.heap.size w w2 := hbel.trans (hb2.mono hz)
            have z2 := hbel2.size
            clear hs2 hb2 hbt hbel
            obtain ⟨lo, hlo⟩ : ∃ lo, lo = wr.heap.size := ⟨_, rfl⟩
            rw [← hlo] at hr2 hgz hz
            clear hlo
            go_wp2_with fail
            go_loopw [62] (fun i wq => ∃ (t : Nat), t ≤ k ∧ i = .int .i64 (t : Int) ∧ Rd wq lo g (encI (ns.drop t) ++ encS ss) ∧ w2.grownBy wq (some g)) (fun i _ => k - (intOf i).toNat)
            case atStart => exact ⟨0, Nat.zero_le _, rfl, by simpa using hr2, grown_refl _ _⟩
            case round =>
              clear hr2
              obtain ⟨t, ht, rfl, hrt, hgt⟩ := hrel
              have hbt : Below w.heap.size w wr := hbel2.grown hgt z2 (fun q hq => by injection hq with hq; omega)
              by_cases hlt : t < k
              · have htl : t < ns.length := by rw [HN.out]; exact hlt
                have hx := hNwf _ (List.getElem_mem htl)
                obtain ⟨hx1, hx2⟩ := wf_i64 hx
                obtain ⟨g', off, rfl, _, _, hcell⟩ := (hN.below hbt (Nat.le_refl _)).at_ hlt
                rw [List.getElem_map] at hcell
                rw [List.drop_eq_getElem_cons htl, encI_cons] at hrt
                generalize ns[t] = x at *
                clear hx
                have e1 := uw_eq x
                have hu := uw_lt x
                generalize uw x = u at *
                obtain ⟨R, hR⟩ : ∃ R, R = encI (ns.drop (t + 1)) ++ encS ss := ⟨_, rfl⟩
                rw [← hR] at hrt
                have HR := hid hR
                clear hR
                go_wp2_with fail
                refine (rnum_nat wr lo g x _ hrt hx1 hx2).mono ?_
                rintro e w3 ⟨rfl, hr3, hg3⟩
                go_wp2_with fail
                refine (rnat_nat w3 lo g u _ hr3 hu).mono ?_
                rintro e w4 ⟨rfl, hr4, hg4⟩
                go_wp2
                exact ⟨⟨t + 1, by omega, by go_num, by rw [← HR.out]; exact hr4, (hgt.trans hg3).trans hg4⟩, by simp [intOf]; omega⟩
              · have htn : ns.drop t = [] := List.drop_of_length_le (by rw [HN.out]; omega)
                rw [htn] at hrt
                have hrt2 : Rd wr lo g (encS ss) := by simpa [encI] using hrt
                clear htn hrt
                go_wp2_with fail
                go_loopw [96] (fun i wq => ∃ (t : Nat), t ≤ j ∧ i = .int .i64 (t : Int) ∧ Rd wq lo g (encS (ss.drop t)) ∧ w2.grownBy wq (some g)) (fun i _ => j - (intOf i).toNat)
                case atStart => exact ⟨0, Nat.zero_le _, rfl, hrt2, hgt⟩
                case round =>
                  clear hrt2 hgt hbt
                  obtain ⟨t, ht, rfl, hrt, hgt⟩ := hrel
                  have hbt : Below w.heap.size w wr := hbel2.grown hgt z2 (fun q hq => by injection hq with hq; omega)
                  by_cases hlt : t < j
                  · have htl : t < ss.length := by rw [HS.out]; exact hlt
                    have hx := hsm.out _ (List.getElem_mem htl)
                    obtain ⟨g', off, rfl, _, _, hcell⟩ := (hS.below hbt (Nat.le_refl _)).at_ hlt
                    rw [List.getElem_map] at hcell
                    rw [List.drop_eq_getElem_cons htl, encS_cons] at hrt
                    generalize ss[t] = x at *
                    obtain ⟨R, hR⟩ : ∃ R, R = encS (ss.drop (t + 1)) := ⟨_, rfl⟩
                    rw [← hR] at hrt
                    have HR := hid hR
                    clear hR
                    go_wp2_with fail
                    refine (rtxt_nat wr lo g x _ hrt (by omega)).mono ?_
                    rintro e w3 ⟨rfl, hr3, hg3⟩
                    go_wp2
                    exact ⟨⟨t + 1, by omega, by go_num, by rw [← HR.out]; exact hr3, hgt.trans hg3⟩, by simp [intOf]; omega⟩
                  · have htn : ss.drop t = [] := List.drop_of_length_le (by rw [HS.out]; omega)
                    rw [htn] at hrt
                    have hrt2 : Rd wr lo g [] := by simpa [encS] using hrt
                    clear htn hrt
                    go_wp2_with fail
                    refine (done_good wr lo g [] hrt2).mono ?_
                    rintro e w3 ⟨rfl, rfl⟩
                    go_wp2
                    go_ret
                    exact ⟨rfl, hbt⟩
end Go.Proofs.Ytabdkhlpickjiaa
