/- What the document's map does: New, Is, Mark. -/
import Derived.Test.YtfkaobpfdpfahaaSqRep
namespace Go.Proofs.Ytfkaobpfdpfahaa
open Go.RowKit

theorem Try.infoInt : (Try.prog.info? 3).map (fun i => (i.zero, i.size, i.bytes)) = some (some (.int .i64 0), 1, 8) := by kernel_rfl

structure RNw (w wr : World) (g n r : Nat) (L : List Nat) (A : Option Addr) (c : Nat) : Prop where
  blk : Blk wr g 39 #[.int .i64 (n : Int), .int .i64 (r : Int), .slice A L.length c]
  row : wr.ownsRow (g + 1) 3 1 (.slice A L.length c) L.length (nis L)
  bel : Below w.heap.size w wr
  g0 : g = w.heap.size
theorem RNw.next {w wr w6 : World} {g n r m : Nat} {L L' : List Nat} {A A' : Option Addr} {c c' : Nat} (h : RNw w wr g n r L A c) (hb : Below (g + 1) wr w6) (hm : m = L'.length) (ho : w6.ownsRow (g + 1) 3 1 (.slice A' m c') m (nis L')) :
    RNw w (w6.setCell ⟨g, 2, none⟩ (.slice A' m c')) g n r L' A' c' := by
  subst hm
  have hg := grown_setCell w6 g 2 (.slice A' L'.length c')
  have h1 := h.blk.lt
  have h2 := h.g0
  refine ⟨(h.blk.keep (hb.block g (by omega))).store 2 _, own_keep ho fun b hA => hg.block b (own_lt ho b hA) (fun e => by injection e with e; have := own_ge ho b hA; omega), ?_, h.g0⟩
  exact (h.bel.trans (hb.mono (by omega))).grown hg (by have := h.bel.size; have := hb.size; omega) (fun k hk => by injection hk with hk; omega)

set_option maxHeartbeats 2000000 in
theorem rnew_c (n r : Nat) (w : World) (h2 : n ≤ 4096) (h3 : r ≤ n) :
    Calls Try.prog 9 #[.int .i64 (n : Int), .int .i64 (r : Int)] w fun e w' => ∃ g F, e = .returned (.pointer (some ⟨g, 0, none⟩)) ∧ RMp w' F g n r (List.range' r (n - r)) ∧ Below w.heap.size w w' ∧ ∀ j, F j → w.heap.size ≤ j := by
  have H2 := hid h2
  have H3 := hid h3
  have B0 : Hid (RNw w (w.alloc (.cells #[.int .i64 (n : Int), .int .i64 (r : Int), .slice none 0 0] 39)) w.heap.size n r [] none 0) := hid ⟨Blk.new _ _ _, own_nilrow _ _ _ _, (Below.refl _ _).alloc (Nat.le_refl _) _, rfl⟩
  clear h2 h3
  go_enter Try.func9, Try.ntmps9
  go_wp2_with fail
  generalize w.alloc (.cells #[.int .i64 (n : Int), .int .i64 (r : Int), .slice none 0 0] 39) = w1 at *
  generalize hg : w.heap.size = g at *
  have HGE := hid hg
  clear hg
  go_loopg [6] (n - r) (fun q iv wr => ∃ (j : Nat) (A : Option Addr) (c : Nat), iv = .int .i64 (j : Int) ∧ Hid (q = n - j) ∧ Hid (r ≤ j ∧ j ≤ n) ∧ Hid (RNw w wr g n r (List.range' r (j - r)) A c))
  case atStart => exact ⟨r, none, 0, rfl, hid rfl, hid ⟨Nat.le_refl _, H3.out⟩, by rw [Nat.sub_self]; exact B0⟩
  case round =>
    obtain ⟨j, A, c, rfl, hgk, hj, hN⟩ := hrel
    clear B0
    rcases Nat.lt_or_ge j n with hlt | hge
    · have HLT := hid hlt
      have j3 : decide ((j : Int) < (n : Int)) = true := by simpa using hlt
      have j4 : decide (j < n) = true := by simpa using hlt
      have wj : wrap64 ((j : Int) + 1) = ((j + 1 : Nat) : Int) := by have := H2.out; unfold wrap64; omega
      have x0 : wr.cell? ⟨g, 2, none⟩ = some (.slice A (List.range' r (j - r)).length c) := by have := hN.out.blk.cell 2; simpa using this
      have HL : Hid (List.range' r (j + 1 - r) = List.range' r (j - r) ++ [j]) := hid (by
        have := hj.out
        rw [show j + 1 - r = (j - r) + 1 by omega, List.range'_1_concat, show r + (j - r) = j by omega])
      have HLL : Hid ((List.range' r (j - r)).length ≤ 4096) := hid (by have := H2.out; have := hj.out; rw [List.length_range']; omega)
      generalize List.range' r (j - r) = L at *
      generalize hm : L.length = m at *
      have HME := hid hm
      have HOW : Hid (wr.ownsRow (g + 1) 3 1 (.slice A m c) m (nis L)) := hid (by rw [← hm]; exact hN.out.row)
      have hgs : g + 1 ≤ wr.heap.size := hN.out.blk.lt
      clear hm hlt
      as_aux_lemma =>
      go_wp2_with (at_builtin; refine wpList_app1 _ rfl _ _ 37 _ rfl (g + 1) 3 (.int .i64 0) 8 Try.underlying37 Try.infoInt rfl _ _ _ _ rfl HOW.out _ rfl rfl (by have := HLL.out; omega) (by have := HLL.out; unfold maxLen; omega) hgs ?_)
      intro A6 c6 w6 hc6 ho6 hg6 hb6 hs6
      have HB6 := hid hb6
      have HO6 : Hid (w6.ownsRow (g + 1) 3 1 (.slice A6 (m + 1) c6) (m + 1) (nis (L ++ [j]))) := hid (by rw [nis_app]; exact ho6)
      have HK6 : Hid (Blk w6 g 39 #[.int .i64 (n : Int), .int .i64 (r : Int), .slice A m c]) := hid (by have := hN.out.blk.keep (hb6.block g (by omega)); rw [HME.out] at this; exact this)
      have x2 : w6.cell? ⟨g, 2, none⟩ = some (.slice A m c) := by have := HK6.out.cell 2; simpa using this
      have f2 := HK6.out.frozen 2
      have HNX : Hid (RNw w (w6.setCell ⟨g, 2, none⟩ (.slice A6 (m + 1) c6)) g n r (L ++ [j]) A6 c6) := hid (hN.out.next hb6 (by rw [List.length_append, HME.out]; rfl) HO6.out)
      clear hc6 ho6 hg6 hb6 hs6 HK6 HO6 HB6 x0 hN HOW hgs
      go_wp2
      go_roundg (n - (j + 1))
      case measure => have := hgk.out; have := HLT.out; omega
      case rel => exact ⟨j + 1, A6, c6, congrArg (Value.int .i64) (by first | exact wj | omega | rfl), hid rfl, hid ⟨by have := hj.out; omega, by have := HLT.out; omega⟩, by rw [HL.out]; exact HNX⟩
    · have j3 : decide ((j : Int) < (n : Int)) = false := by simp; omega
      have j4 : decide (j < n) = false := by simp; omega
      obtain rfl : j = n := by have := hj.out; omega
      clear hge hgk
      as_aux_lemma =>
      go_wp2
      go_ret
      refine ⟨g, fun x => w.heap.size ≤ x ∧ x < wr.heap.size, rfl, ⟨A, c, hN.out.blk, own_zero hN.out.row, fun b hb => ?_, ?_, fun x hx => hx.2⟩, hN.out.bel, fun x hx => hx.1⟩
      · have h1 := own_ge hN.out.row b hb
        have h2 := own_lt hN.out.row b hb
        have h3 := hN.out.g0
        exact ⟨by omega, by omega, by omega⟩
      · have := hN.out.blk.lt
        have := hN.out.g0
        exact ⟨by omega, by omega⟩

set_option maxHeartbeats 2000000 in
theorem ris_c (w : World) (F : Nat → Prop) (g n r : Nat) (L : List Nat) (h : RMp w F g n r L) (hL : L.length ≤ 4096) (i : Int) :
    Calls Try.prog 17 #[.pointer (some ⟨g, 0, none⟩), .int .i64 i] w fun e w' => e = .returned (.bool (isIn L i)) ∧ w = w' := by
  obtain ⟨A, c, h⟩ := h
  obtain ⟨-, -, x2⟩ := h.cells
  have HR := hid h
  have HL := hid hL
  clear h hL
  go_enter Try.func17, Try.ntmps17
  go_wp2_with fail
  go_loopg [12] L.length (fun q iv wr => ∃ j : Nat, iv = .int .i64 (j : Int) ∧ Hid (q = L.length - j) ∧ Hid (j ≤ L.length) ∧ Hid (isIn (L.take j) i = false) ∧ w = wr)
  case atStart => exact ⟨0, rfl, hid (by omega), hid (Nat.zero_le _), hid rfl, rfl⟩
  case round =>
    obtain ⟨j, rfl, hgk, hj, hN, rfl⟩ := hrel
    rcases Nat.lt_or_ge j L.length with hlt | hge
    · have HLT := hid hlt
      obtain ⟨b, rfl, hbl, hce⟩ := HR.out.elem hlt
      have HT : Hid (L.take (j + 1) = L.take j ++ [L[j]]) := hid (List.take_succ_eq_append_getElem hlt)
      have HI : Hid (((L[j] : Nat) : Int) = i → isIn L i = true) := hid (fun e => by unfold isIn; rw [List.any_eq_true]; exact ⟨L[j], List.getElem_mem hlt, by simpa using e⟩)
      generalize L[j] = x at *
      have j1 : (0 : Int) ≤ (j : Int) := by omega
      have j2 : (j : Int) < (L.length : Int) := by omega
      have j3 : decide ((j : Int) < (L.length : Int)) = true := by simpa using hlt
      have j4 : decide (j < L.length) = true := by simpa using hlt
      have wj : wrap64 ((j : Int) + 1) = ((j + 1 : Nat) : Int) := by have := HL.out; unfold wrap64; omega
      clear hlt
      generalize L.length = m at *
      by_cases hx : (x : Int) = i
      · have e1 : ((x : Int) == i) = true := by simpa using hx
        have HE := hid (HI.out hx)
        clear hx
        as_aux_lemma =>
        go_wp2
        go_ret
        exact ⟨by rw [HE.out]; rfl, rfl⟩
      · have e1 : ((x : Int) == i) = false := by simpa using hx
        have HE : Hid (isIn (L.take (j + 1)) i = false) := hid (by
          rw [HT.out]
          have := hN.out
          unfold isIn at this ⊢
          rw [List.any_append, this]
          simpa using hx)
        clear hx
        as_aux_lemma =>
        go_wp2
        go_roundg (m - (j + 1))
        case measure => have := hgk.out; have := HLT.out; omega
        case rel => exact ⟨j + 1, congrArg (Value.int .i64) (by first | exact wj | omega | rfl), hid rfl, hid (by have := HLT.out; omega), HE, by first | rfl | trivial⟩
    · have j3 : decide ((j : Int) < (L.length : Int)) = false := by simp; omega
      have j4 : decide (j < L.length) = false := by simp; omega
      have HE : Hid (isIn L i = false) := hid (by have := hN.out; rwa [List.take_of_length_le hge] at this)
      clear hge
      as_aux_lemma =>
      go_wp2
      go_ret
      exact ⟨by rw [HE.out]; rfl, rfl⟩

set_option maxHeartbeats 4000000 in
theorem rmark_any (w : World) (F : Nat → Prop) (g n r : Nat) (L : List Nat) (h : RMp w F g n r L) (hL : L.length ≤ 4096) (i : Int) :
    Calls Try.prog 13 #[.pointer (some ⟨g, 0, none⟩), .int .i64 i] w fun e w' => e = .returned (.bool (decide ((rm L i).length < L.length))) ∧ RLeft w w' F g n r (rm L i) := by
  obtain ⟨A, c, h⟩ := h
  obtain ⟨-, -, x2⟩ := h.cells
  have HR := hid h
  have HL := hid hL
  clear h hL
  go_enter Try.func13, Try.ntmps13
  go_wp2_with fail
  go_loopg [14, 5] L.length (fun q iv rv wr => ∃ (j m : Nat) (A' : Option Addr) (c' : Nat), iv = .int .i64 (j : Int) ∧ rv = .slice A' m c' ∧ Hid (q = L.length - j) ∧ Hid (j ≤ L.length) ∧ Hid (m = (rm (L.take j) i).length) ∧ Hid (wr.ownsRow w.heap.size 3 1 (.slice A' m c') m (nis (rm (L.take j) i))) ∧ Hid (Below w.heap.size w wr))
  case atStart => exact ⟨0, 0, none, 0, rfl, rfl, hid (by omega), hid (Nat.zero_le _), hid rfl, hid (own_nilrow _ _ _ _), hid (Below.refl _ _)⟩
  case round =>
    obtain ⟨j, m, A', c', rfl, rfl, hgk, hj, hm, hO, hB⟩ := hrel
    have y2 : wr.cell? ⟨g, 2, none⟩ = some (.slice A L.length c) := (World.cell?_of_block (hB.out.block g (HR.out.lt g HR.out.Fg))).trans x2
    clear x2
    rcases Nat.lt_or_ge j L.length with hlt | hge
    · have HLT := hid hlt
      obtain ⟨b, rfl, hbl, hce⟩ := HR.out.elem hlt
      have hcr : wr.cell? ⟨b, j, none⟩ = some (.int .i64 (L[j] : Int)) := (World.cell?_of_block (hB.out.block b hbl)).trans hce
      have HT : Hid (L.take (j + 1) = L.take j ++ [L[j]]) := hid (List.take_succ_eq_append_getElem hlt)
      have HSN := hid (rm_snoc (L.take j) i L[j])
      have HML : Hid (m ≤ 4096) := hid (by have := rm_len (L.take j) i; rw [List.length_take] at this; have := hm.out; have := HL.out; omega)
      generalize L[j] = x at *
      have j1 : (0 : Int) ≤ (j : Int) := by omega
      have j2 : (j : Int) < (L.length : Int) := by omega
      have j3 : decide ((j : Int) < (L.length : Int)) = true := by simpa using hlt
      have j4 : decide (j < L.length) = true := by simpa using hlt
      have wj : wrap64 ((j : Int) + 1) = ((j + 1 : Nat) : Int) := by have := HL.out; unfold wrap64; omega
      have hbs := hB.out.size
      clear hlt hce hbl
      generalize L.length = M at *
      by_cases hx : (x : Int) = i
      · have e1 : ((x : Int) != i) = false := by simpa using hx
        have HE : Hid (rm (L.take (j + 1)) i = rm (L.take j) i) := hid (by rw [HT.out, HSN.out, e1]; simp)
        clear hx hbs
        as_aux_lemma =>
        go_wp2
        go_roundg (M - (j + 1))
        case measure => have := hgk.out; have := HLT.out; omega
        case rel => exact ⟨j + 1, m, A', c', congrArg (Value.int .i64) (by first | exact wj | omega | rfl), rfl, hid rfl, hid (by have := HLT.out; omega), by rw [HE.out]; exact hm, by rw [HE.out]; exact hO, hB⟩
      · have e1 : ((x : Int) != i) = true := by simpa using hx
        have HE : Hid (rm (L.take (j + 1)) i = rm (L.take j) i ++ [x]) := hid (by rw [HT.out, HSN.out, e1]; simp)
        clear hx
        generalize rm (L.take j) i = R at *
        as_aux_lemma =>
        go_wp2_with (at_builtin; refine wpList_app1 _ rfl _ _ 37 _ rfl w.heap.size 3 (.int .i64 0) 8 Try.underlying37 Try.infoInt rfl _ _ _ _ rfl hO.out _ rfl rfl (by have := HML.out; omega) (by have := HML.out; unfold maxLen; omega) hbs ?_)
        intro A6 c6 w6 hc6 ho6 hg6 hb6 hs6
        have HB6 : Hid (Below w.heap.size w w6) := hid (hB.out.trans hb6)
        have HO6 : Hid (w6.ownsRow w.heap.size 3 1 (.slice A6 (m + 1) c6) (m + 1) (nis (R ++ [x]))) := hid (by rw [nis_app]; exact ho6)
        have HM6 : Hid (m + 1 = (R ++ [x]).length) := hid (by rw [List.length_append, ← hm.out]; rfl)
        clear hc6 ho6 hg6 hb6 hs6 hO hB hcr hm hbs y2
        go_wp2
        go_roundg (M - (j + 1))
        case measure => have := hgk.out; have := HLT.out; omega
        case rel => exact ⟨j + 1, m + 1, A6, c6, congrArg (Value.int .i64) (by first | exact wj | omega | rfl), rfl, hid rfl, hid (by have := HLT.out; omega), by rw [HE.out]; exact HM6, by rw [HE.out]; exact HO6, HB6⟩
    · have j3 : decide ((j : Int) < (L.length : Int)) = false := by simp; omega
      have j4 : decide (j < L.length) = false := by simp; omega
      have HT : Hid (L.take j = L) := hid (List.take_of_length_le hge)
      rw [HT.out] at hm hO
      have HNX := hid (HR.out.next hB.out hm.out hO.out)
      have f2 : wr.frozen? ⟨g, 2, none⟩ = false := (HR.out.blk.keep (hB.out.block g (HR.out.lt g HR.out.Fg))).frozen 2
      clear hge hO hB HT
      generalize hM : L.length = M at *
      have HMM := hid hM
      clear hM
      as_aux_lemma =>
      go_wp2
      go_ret
      exact ⟨by rw [HMM.out, ← hm.out]; simp, HNX.out⟩
end Go.Proofs.Ytfkaobpfdpfahaa
