/- What the document's map does: Take, Give. -/
import Derived.Test.YtfkaobpfdpfahaaSqW1
namespace Go.Proofs.Ytfkaobpfdpfahaa
open Go.RowKit

theorem rtake_nil (w : World) (F : Nat → Prop) (g n r : Nat) (h : RMp w F g n r []) :
    Calls Try.prog 11 #[.pointer (some ⟨g, 0, none⟩)] w fun e w' => e = .returned (.tuple #[.int .i64 0, .bool false]) ∧ w = w' := by
  obtain ⟨A, c, h⟩ := h
  obtain ⟨-, -, x2⟩ := h.cells
  simp only [List.length_nil] at x2
  clear h
  go_enter Try.func11, Try.ntmps11
  go_wp2
  go_ret2
  exact ⟨rfl, rfl⟩
set_option maxHeartbeats 4000000 in
theorem rtake_c (w : World) (F : Nat → Prop) (g n r x : Nat) (R : List Nat) (h : RMp w F g n r (x :: R)) (hL : R.length ≤ 4096) :
    Calls Try.prog 11 #[.pointer (some ⟨g, 0, none⟩)] w fun e w' => e = .returned (.tuple #[.int .i64 (x : Int), .bool true]) ∧ RLeft w w' F g n r R := by
  obtain ⟨A, c, h⟩ := h
  obtain ⟨-, -, x2⟩ := h.cells
  obtain ⟨b, rfl, hbl, hce⟩ := h.elem (j := 0) (by simp)
  simp only [List.getElem_cons_zero] at hce
  have HR := hid h
  have HL := hid hL
  have hcap : R.length + 1 ≤ c := by
    obtain ⟨A', c', hv, hc⟩ := own_form h.row
    injection hv with _ _ h3
    subst h3
    exact hc
  have hgl := h.lt g h.Fg
  have B0 : Hid (Below w.heap.size w (w.alloc (.cells #[] 3))) := hid ((Below.refl _ _).alloc (Nat.le_refl _) _)
  have O0 : Hid ((w.alloc (.cells #[] 3)).ownsRow w.heap.size 3 1 (.slice (some ⟨w.heap.size, 0, none⟩) 0 0) 0 []) := hid ⟨rfl, .inr ⟨w.heap.size, 0, #[], rfl, Nat.le_refl _, heap_alloc_new w _, Nat.le_refl _, Nat.zero_le _, rfl, rfl⟩⟩
  have hs0 : Hid (w.heap.size ≤ (w.alloc (.cells #[] 3)).heap.size) := hid (by simp)
  have y2 : (w.alloc (.cells #[] 3)).cell? ⟨g, 2, none⟩ = some (.slice (some ⟨b, 0, none⟩) (x :: R).length c) := (World.cell?_of_block (B0.out.block g hgl)).trans x2
  have HRG : Hid (∀ A2, (0 < R.length → A2 = some ⟨b, 1, none⟩) → Lst (w.alloc (.cells #[] 3)) 0 (w.alloc (.cells #[] 3)).heap.size A2 R.length (nis R)) := hid (fun A2 hA2 => ⟨nis_len R, fun h0 => by
    refine ⟨b, 1, hA2 h0, Nat.zero_le _, Nat.lt_of_lt_of_le hbl B0.out.size, fun j u hu => ?_⟩
    rw [World.cell?_of_block (B0.out.block b hbl)]
    obtain ⟨b', hA, _, hr⟩ := own_range HR.out.row (by simp)
    injection hA with hA
    injection hA with hA
    subst hA
    have := hr (j + 1) u (by rw [show nis (x :: R) = .int .i64 (x : Int) :: nis R from rfl, List.getElem?_cons_succ]; exact hu)
    rwa [Nat.zero_add, Nat.add_comm j 1] at this⟩)
  have HNX : Hid (∀ A' c' m w1, Below w.heap.size w w1 → m = R.length → w1.ownsRow w.heap.size 3 1 (.slice A' m c') m (nis R) → RLeft w (w1.setCell ⟨g, 2, none⟩ (.slice A' m c')) F g n r R ∧ w1.frozen? ⟨g, 2, none⟩ = false ∧ (w1.cell? ⟨g, 2, none⟩) = some (.slice (some ⟨b, 0, none⟩) (x :: R).length c)) := hid (fun A' c' m w1 hb hm ho => ⟨HR.out.next hb hm ho, (HR.out.blk.keep (hb.block g hgl)).frozen 2, (World.cell?_of_block (hb.block g hgl)).trans x2⟩)
  rw [List.length_cons] at x2 y2 HNX
  have HCAP := hid hcap
  have l0 : (((R.length + 1 : Nat) : Int) == 0) = false := beq_false_of_ne (by omega)
  have l1 : (0 : Int) < ((R.length + 1 : Nat) : Int) := by omega
  have l2 : (1 : Int) ≤ ((R.length + 1 : Nat) : Int) := by omega
  have HLE : Hid (R.length + 1 - 1 = R.length) := hid (by omega)
  generalize hm : R.length = m at *
  have HME := hid hm
  clear h hL hgl hbl hm hcap
  generalize hM : m + 1 = M at *
  have HMM := hid hM
  have l3 : M ≤ c := by have := HCAP.out; omega
  clear hM
  have hle : M - 1 = m := by have := HMM.out; omega
  by_cases hc1 : c = 1
  · have HM1 : Hid (m = 0) := hid (by have := HMM.out; have := HCAP.out; omega)
    subst hc1
    go_enter Try.func11, Try.ntmps11
    go_wp2_with (at_builtin; refine wpList_appL _ rfl _ _ 37 rfl w.heap.size 3 (.int .i64 0) 8 Try.underlying37 Try.infoInt rfl _ 0 0 [] rfl O0.out 0 _ _ m _ (nis R) rfl (HRG.out _ (fun h => absurd h (by have := HM1.out; omega))) (nis_one _) (by have := HL.out; omega) (by have := HL.out; unfold maxLen; omega) hs0.out ?_)
    intro A6 c6 w6 hc6 ho6 hg6 hb6 hs6
    try rw [Nat.zero_add] at *
    obtain ⟨n1, n2, n3⟩ := HNX.out A6 c6 m w6 (B0.out.trans hb6) rfl (by simpa using ho6)
    have HN := hid n1
    clear n1 HNX hc6 ho6 hg6 hb6 hs6 HRG O0 B0
    go_wp2
    go_ret2
    exact ⟨rfl, HN.out⟩
  · have c2 : ¬ (c : Int) = 1 := by omega
    have c3 : (1 : Int) ≤ (c : Int) := by have := HCAP.out; omega
    go_enter Try.func11, Try.ntmps11
    go_wp2_with (at_builtin; refine wpList_appL _ rfl _ _ 37 rfl w.heap.size 3 (.int .i64 0) 8 Try.underlying37 Try.infoInt rfl _ 0 0 [] rfl O0.out 0 _ _ m _ (nis R) rfl (HRG.out _ (fun h => rfl)) (nis_one _) (by have := HL.out; omega) (by have := HL.out; unfold maxLen; omega) hs0.out ?_)
    intro A6 c6 w6 hc6 ho6 hg6 hb6 hs6
    try rw [Nat.zero_add] at *
    obtain ⟨n1, n2, n3⟩ := HNX.out A6 c6 m w6 (B0.out.trans hb6) rfl (by simpa using ho6)
    have HN := hid n1
    clear n1 HNX hc6 ho6 hg6 hb6 hs6 HRG O0 B0
    go_wp2
    go_ret2
    exact ⟨rfl, HN.out⟩

theorem rgive_no (w : World) (F : Nat → Prop) (g n r : Nat) (L : List Nat) (h : RMp w F g n r L) (hL : L.length ≤ 4096) (i : Int) (hb : (decide (i < (r : Int)) || decide ((n : Int) ≤ i) || isIn L i) = true) :
    Calls Try.prog 15 #[.pointer (some ⟨g, 0, none⟩), .int .i64 i] w fun e w' => e = .returned (.bool false) ∧ w = w' := by
  have his := ris_c w F g n r L h hL i
  obtain ⟨A, c, h⟩ := h
  obtain ⟨x0, x1, -⟩ := h.cells
  clear h hL
  cases e1 : decide (i < (r : Int)) with
  | true =>
    clear hb his
    go_enter Try.func15, Try.ntmps15
    go_wp2
    go_ret
    exact ⟨rfl, rfl⟩
  | false =>
    cases e2 : decide ((n : Int) ≤ i) with
    | true =>
      clear hb his
      go_enter Try.func15, Try.ntmps15
      go_wp2
      go_ret
      exact ⟨rfl, rfl⟩
    | false =>
      rw [e1, e2] at hb
      rw [show isIn L i = true by simpa using hb] at his
      clear hb
      go_enter Try.func15, Try.ntmps15
      go_wp2_with fail
      refine his.mono ?_
      rintro e w' ⟨rfl, rfl⟩
      go_wp2
      go_ret
      exact ⟨rfl, rfl⟩
set_option maxHeartbeats 4000000 in
theorem rgive_yes (w : World) (F : Nat → Prop) (g n r : Nat) (L : List Nat) (h : RMp w F g n r L) (hL : L.length ≤ 4096) (i : Int) (i0 : Nat) (hi : i = (i0 : Int)) (hb : (decide (i < (r : Int)) || decide ((n : Int) ≤ i) || isIn L i) = false) :
    Calls Try.prog 15 #[.pointer (some ⟨g, 0, none⟩), .int .i64 i] w fun e w' => e = .returned (.bool true) ∧ RLeft w w' F g n r (ins i0 L) := by
  have his := ris_c w F g n r L h hL i
  obtain ⟨A, c, h⟩ := h
  obtain ⟨x0, x1, x2⟩ := h.cells
  rw [Bool.or_eq_false_iff, Bool.or_eq_false_iff] at hb
  obtain ⟨⟨e1, e2⟩, e3⟩ := hb
  rw [e3] at his
  have HR := hid h
  have HL := hid hL
  have HI := hid hi
  have HGL := hid (h.lt g h.Fg)
  clear h hL hi e3
  go_enter Try.func15, Try.ntmps15
  go_wp2_with fail
  refine his.mono ?_
  rintro e w' ⟨rfl, rfl⟩
  clear his
  go_wp2_with fail
  clear x0 x1 e1 e2
  go_loopg [33, 5, 6] L.length (fun q iv lv fv wr => ∃ (j m : Nat) (A' : Option Addr) (c' : Nat) (P : List Nat) (fl : Bool), iv = .int .i64 (j : Int) ∧ lv = .slice A' m c' ∧ fv = .bool fl ∧ Hid (q = L.length - j) ∧ Hid (j ≤ L.length) ∧ Hid (gf i0 (L.take j) = (P, fl)) ∧ Hid (m = P.length) ∧ Hid (wr.ownsRow w.heap.size 3 1 (.slice A' m c') m (nis P)) ∧ Hid (Below w.heap.size w wr))
  case atStart => exact ⟨0, 0, none, 0, [], false, rfl, rfl, rfl, hid (by omega), hid (Nat.zero_le _), hid rfl, hid rfl, hid (own_nilrow _ _ _ _), hid (Below.refl _ _)⟩
  case round =>
    obtain ⟨j, m, A', c', P, fl, rfl, rfl, rfl, hgk, hj, hP, hm, hO, hB⟩ := hrel
    have HML : Hid (m ≤ 8192) := hid (by have := gf_len i0 L j hj.out; rw [hP.out] at this; have := hm.out; have := HL.out; have := hj.out; simp at *; omega)
    rcases Nat.lt_or_ge j L.length with hlt | hge
    · have HLT := hid hlt
      obtain ⟨b, rfl, hbl, hce⟩ := HR.out.elem hlt
      have hcr : wr.cell? ⟨b, j, none⟩ = some (.int .i64 (L[j] : Int)) := (World.cell?_of_block (hB.out.block b hbl)).trans hce
      have HT : Hid (gf i0 (L.take (j + 1)) = gstep i0 (P, fl) L[j]) := hid (by rw [List.take_succ_eq_append_getElem hlt, gf_snoc, hP.out]; rfl)
      generalize L[j] = x at *
      have j1 : (0 : Int) ≤ (j : Int) := by omega
      have j2 : (j : Int) < (L.length : Int) := by omega
      have j3 : decide ((j : Int) < (L.length : Int)) = true := by simpa using hlt
      have j4 : decide (j < L.length) = true := by simpa using hlt
      have wj : wrap64 ((j : Int) + 1) = ((j + 1 : Nat) : Int) := by have := HL.out; unfold wrap64; omega
      have hbs := hB.out.size
      clear hlt hce hbl x2 hP
      generalize L.length = M at *
      by_cases hx : fl = false ∧ i < (x : Int)
      · obtain ⟨rfl, hx⟩ := hx
        have e1 : decide (i < (x : Int)) = true := by simpa using hx
        have HE : Hid (gf i0 (L.take (j + 1)) = (P ++ [i0] ++ [x], true)) := hid (by
          rw [HT.out]
          have : i0 < x := by have := HI.out; omega
          unfold gstep
          rw [if_pos (by simpa using this)])
        clear hx HT
        as_aux_lemma =>
        go_wp2_with (at_builtin; refine wpList_app1 _ rfl _ _ 37 _ rfl w.heap.size 3 (.int .i64 0) 8 Try.underlying37 Try.infoInt rfl _ _ _ _ rfl hO.out _ rfl rfl (by have := HML.out; omega) (by have := HML.out; unfold maxLen; omega) hbs ?_)
        intro A6 c6 w6 hc6 ho6 hg6 hb6 hs6
        have HB6 : Hid (Below w.heap.size w w6) := hid (hB.out.trans hb6)
        have HO6 : Hid (w6.ownsRow w.heap.size 3 1 (.slice A6 (m + 1) c6) (m + 1) (nis (P ++ [i0]))) := hid (by rw [nis_app]; have := HI.out; rw [this] at ho6; exact ho6)
        have hs6' := HB6.out.size
        clear hc6 ho6 hg6 hb6 hs6 hO hB hcr hbs
        go_wp2_with (at_builtin; refine wpList_app1 _ rfl _ _ 37 _ rfl w.heap.size 3 (.int .i64 0) 8 Try.underlying37 Try.infoInt rfl _ _ _ _ rfl HO6.out _ rfl rfl (by have := HML.out; omega) (by have := HML.out; unfold maxLen; omega) hs6' ?_)
        intro A7 c7 w7 hc7 ho7 hg7 hb7 hs7
        have HB7 : Hid (Below w.heap.size w w7) := hid (HB6.out.trans hb7)
        have HO7 : Hid (w7.ownsRow w.heap.size 3 1 (.slice A7 (m + 1 + 1) c7) (m + 1 + 1) (nis (P ++ [i0] ++ [x]))) := hid (by rw [nis_app (P ++ [i0])]; exact ho7)
        have HM7 : Hid (m + 1 + 1 = (P ++ [i0] ++ [x]).length) := hid (by rw [List.length_append, List.length_append, ← hm.out]; rfl)
        clear hc7 ho7 hg7 hb7 hs7 HB6 HO6 hs6'
        go_wp2
        go_roundg (M - (j + 1))
        case measure => have := hgk.out; have := HLT.out; omega
        case rel => exact ⟨j + 1, m + 1 + 1, A7, c7, _, _, congrArg (Value.int .i64) (by first | exact wj | omega | rfl), rfl, rfl, hid rfl, hid (by have := HLT.out; omega), HE, HM7, HO7, HB7⟩
      · have e0 : fl = true ∨ fl = false ∧ decide (i < (x : Int)) = false := by
          cases fl with
          | true => exact .inl rfl
          | false => exact .inr ⟨rfl, by simpa using hx⟩
        have HE : Hid (gf i0 (L.take (j + 1)) = (P ++ [x], fl)) := hid (by
          rw [HT.out]
          have : (!fl && decide (i0 < x)) = false := by
            cases fl with
            | true => rfl
            | false =>
              have := HI.out
              simp at hx
              simp
              omega
          unfold gstep
          rw [if_neg (by rw [this]; decide)])
        clear hx HT
        rcases e0 with rfl | ⟨rfl, e1⟩
        all_goals
          as_aux_lemma =>
          go_wp2_with (at_builtin; refine wpList_app1 _ rfl _ _ 37 _ rfl w.heap.size 3 (.int .i64 0) 8 Try.underlying37 Try.infoInt rfl _ _ _ _ rfl hO.out _ rfl rfl (by have := HML.out; omega) (by have := HML.out; unfold maxLen; omega) hbs ?_)
          intro A6 c6 w6 hc6 ho6 hg6 hb6 hs6
          have HB6 : Hid (Below w.heap.size w w6) := hid (hB.out.trans hb6)
          have HO6 : Hid (w6.ownsRow w.heap.size 3 1 (.slice A6 (m + 1) c6) (m + 1) (nis (P ++ [x]))) := hid (by rw [nis_app]; exact ho6)
          have HM6 : Hid (m + 1 = (P ++ [x]).length) := hid (by rw [List.length_append, ← hm.out]; rfl)
          clear hc6 ho6 hg6 hb6 hs6 hO hB hcr hbs
          go_wp2
          go_roundg (M - (j + 1))
          case measure => have := hgk.out; have := HLT.out; omega
          case rel => exact ⟨j + 1, m + 1, A6, c6, _, _, congrArg (Value.int .i64) (by first | exact wj | omega | rfl), rfl, rfl, hid rfl, hid (by have := HLT.out; omega), HE, HM6, HO6, HB6⟩
    · have j3 : decide ((j : Int) < (L.length : Int)) = false := by simp; omega
      have j4 : decide (j < L.length) = false := by simp; omega
      have HG : Hid (ins i0 L = gend i0 (P, fl)) := hid (by rw [← gend_gf, ← hP.out, List.take_of_length_le hge])
      clear hge hP
      cases fl with
      | true =>
        have HG2 : Hid (ins i0 L = P) := hid HG.out
        have HNX := hid (HR.out.next hB.out hm.out hO.out)
        have f2 : wr.frozen? ⟨g, 2, none⟩ = false := (HR.out.blk.keep (hB.out.block g HGL.out)).frozen 2
        have y2 : wr.cell? ⟨g, 2, none⟩ = some (.slice A L.length c) := (World.cell?_of_block (hB.out.block g HGL.out)).trans x2
        clear hO hB HG x2
        generalize L.length = M at *
        as_aux_lemma =>
        go_wp2
        go_ret
        exact ⟨rfl, by rw [HG2.out]; exact HNX.out⟩
      | false =>
        have HG2 : Hid (ins i0 L = P ++ [i0]) := hid HG.out
        have hbs := hB.out.size
        clear HG
        as_aux_lemma =>
        go_wp2_with (at_builtin; refine wpList_app1 _ rfl _ _ 37 _ rfl w.heap.size 3 (.int .i64 0) 8 Try.underlying37 Try.infoInt rfl _ _ _ _ rfl hO.out _ rfl rfl (by have := HML.out; omega) (by have := HML.out; unfold maxLen; omega) hbs ?_)
        intro A6 c6 w6 hc6 ho6 hg6 hb6 hs6
        have HB6 : Hid (Below w.heap.size w w6) := hid (hB.out.trans hb6)
        have HO6 : Hid (w6.ownsRow w.heap.size 3 1 (.slice A6 (m + 1) c6) (m + 1) (nis (P ++ [i0]))) := hid (by rw [nis_app]; have := HI.out; rw [this] at ho6; exact ho6)
        have HM6 : Hid (m + 1 = (P ++ [i0]).length) := hid (by rw [List.length_append, ← hm.out]; rfl)
        have HNX := hid (HR.out.next HB6.out HM6.out HO6.out)
        have f2 : w6.frozen? ⟨g, 2, none⟩ = false := (HR.out.blk.keep (HB6.out.block g HGL.out)).frozen 2
        have y2 : w6.cell? ⟨g, 2, none⟩ = some (.slice A L.length c) := (World.cell?_of_block (HB6.out.block g HGL.out)).trans x2
        clear hc6 ho6 hg6 hb6 hs6 hO hB x2 hbs
        generalize L.length = M at *
        go_wp2
        go_ret
        exact ⟨rfl, by rw [HG2.out]; exact HNX.out⟩
theorem rgive_any (w : World) (F : Nat → Prop) (g n r : Nat) (L : List Nat) (s : Sp) (hs : Cp s L) (hn : s.T.length = n) (hr : s.r = r) (h : RMp w F g n r L) (hL : L.length ≤ 4096) (i : Int) :
    Calls Try.prog 15 #[.pointer (some ⟨g, 0, none⟩), .int .i64 i] w fun e w' => ∃ L', e = .returned (.bool (s.gv i)) ∧ RLeft w w' F g n r L' ∧ Cp (s.give i) L' := by
  have hg := hs.gv i
  rw [hn, hr] at hg
  cases hb : (decide (i < (r : Int)) || decide ((n : Int) ≤ i) || isIn L i) with
  | true =>
    rw [hb] at hg
    refine (rgive_no w F g n r L h hL i hb).mono ?_
    rintro e w' ⟨rfl, rfl⟩
    exact ⟨L, by rw [hg]; rfl, .same h, by unfold Sp.give; rw [hg]; exact hs⟩
  | false =>
    rw [hb] at hg
    obtain ⟨j, rfl, hj, hjr⟩ := (s.gv_iff i).1 hg
    refine (rgive_yes w F g n r L h hL _ j rfl hb).mono ?_
    rintro e w' ⟨rfl, hl⟩
    exact ⟨ins j L, by rw [hg]; rfl, hl, hs.give j hg⟩
theorem rtake_any (w : World) (F : Nat → Prop) (g n r : Nat) (L : List Nat) (s : Sp) (hs : Cp s L) (h : RMp w F g n r L) (hL : L.length ≤ 4096) :
    Calls Try.prog 11 #[.pointer (some ⟨g, 0, none⟩)] w fun e w' => ∃ L', e = .returned (.tuple #[.int .i64 (s.takeN : Int), .bool s.any]) ∧ RLeft w w' F g n r L' ∧ Cp s.take L' := by
  cases L with
  | nil =>
    obtain ⟨h1, h2, h3⟩ := hs.nil
    refine (rtake_nil w F g n r h).mono ?_
    rintro e w' ⟨rfl, rfl⟩
    exact ⟨[], by rw [h1, h2]; rfl, .same h, by rw [h3]; exact hs⟩
  | cons x R =>
    obtain ⟨h1, h2, h3⟩ := hs.cons
    refine (rtake_c w F g n r x R h (by simp at hL; omega)).mono ?_
    rintro e w' ⟨rfl, hl⟩
    exact ⟨R, by rw [h1, h2], hl, h3⟩
theorem rmark_all (w : World) (F : Nat → Prop) (g n r : Nat) (L : List Nat) (s : Sp) (hs : Cp s L) (h : RMp w F g n r L) (hL : L.length ≤ 4096) (i : Int) :
    Calls Try.prog 13 #[.pointer (some ⟨g, 0, none⟩), .int .i64 i] w fun e w' => ∃ L', e = .returned (.bool (s.fr i)) ∧ RLeft w w' F g n r L' ∧ Cp (s.mark i) L' := by
  obtain ⟨h1, h2⟩ := hs.mark i
  refine (rmark_any w F g n r L h hL i).mono ?_
  rintro e w' ⟨rfl, hl⟩
  exact ⟨rm L i, by rw [h2], hl, h1⟩

end Go.Proofs.Ytfkaobpfdpfahaa
