/- What Open of the document's vault answers. -/
import Derived.Test.YtaailoodhaibiaaVrRep
namespace Go.Proofs.Ytaailoodhaibiaa
open Go.RowKit

theorem Try.infoEn : (Try.prog.info? 51).map (fun i => (i.zero, i.size, i.bytes)) = some (some (.agg #[.int .i64 0, .int .i64 0, .int .i64 0, .string ⟨#[]⟩, .string ⟨#[]⟩]), 5, 56) := by kernel_rfl
theorem Try.infoEn1 : (Try.prog.info? 51).map (·.size) = some 5 := by kernel_rfl
theorem opX_found {s : Va} {k : Ky} {b : List UInt8} {j : Nat} (hj : j < s.L.length) (h1 : s.L[j].k = k) (h2 : s.L[j].b = b) : opX s k b (j + 1) = some s.L[j].p := by
  unfold opX behind
  rw [if_neg (by omega), Nat.add_sub_cancel, List.getElem?_eq_getElem hj]
  show (if s.L[j].k = k ∧ s.L[j].b = b then some s.L[j].p else none) = _
  rw [if_pos ⟨h1, h2⟩]
theorem opX_none {s : Va} {k : Ky} {b : List UInt8} {hd : Nat} (h : ∀ i, ∀ hi : i < s.L.length, ¬ (i + 1 = hd ∧ s.L[i].k = k ∧ s.L[i].b = b)) : opX s k b hd = none := by
  unfold opX behind
  by_cases h0 : hd = 0
  · rw [if_pos h0]; rfl
  · rw [if_neg h0]
    obtain ⟨i, rfl⟩ : ∃ i, hd = i + 1 := ⟨hd - 1, by omega⟩
    rw [Nat.add_sub_cancel]
    by_cases hi : i < s.L.length
    · rw [List.getElem?_eq_getElem hi]
      show (if s.L[i].k = k ∧ s.L[i].b = b then some s.L[i].p else none) = _
      rw [if_neg (fun e => h i hi ⟨rfl, e⟩)]
    · rw [List.getElem?_eq_none (by omega)]
      rfl
set_option maxRecDepth 20000 in
set_option maxHeartbeats 4000000 in
theorem ropen_c (w : World) (F : Nat → Prop) (g : Nat) (s : Va) (h : RVt w F g s) (k : Ky) (b : List UInt8) (H : Int) (hd : Nat) (hH : H = (hd : Int)) (hG : s.G.length ≤ 1000000) (hL : s.L.length ≤ 1000000) :
    Calls Try.prog 12 #[.pointer (some ⟨g, 0, none⟩), (.agg #[.int .i64 (k).t, .int .i64 (k).c, .int .i64 (k).e]), .string (str b), .int .u64 H] w fun e w' => e = .returned (.tuple #[.string (str (opB s k b hd)), .int .i64 (opE s k b hd)]) ∧ Below w.heap.size w w' := by
  have hb0 : Below w.heap.size w (w.alloc (.cells #[.int .i64 k.t, .int .i64 k.c, .int .i64 k.e] 32)) := (Below.refl _ _).alloc (Nat.le_refl _) _
  have hK0 := Blk.new w 32 #[.int .i64 k.t, .int .i64 k.c, .int .i64 k.e]
  have hgo := rgone_c _ F g s (h.bel hb0) k hG
  obtain ⟨A, c, B, d, h⟩ := h
  have HH := hid h
  have HB0 := hid hb0
  have HK0 := hid hK0
  have HLL := hid hL
  obtain rfl := hH
  clear h hb0 hK0 hG hL
  by_cases hGG : k ∈ s.G
  · rw [decide_eq_true hGG] at hgo
    have HE : Hid (opE s k b hd = 50) := hid (if_pos hGG)
    have HO : Hid (opB s k b hd = []) := hid (if_pos hGG)
    rw [HE.out, HO.out]
    clear hGG HE HO
    go_enter Try.func12, Try.ntmps12
    go_wp2_with fail
    refine hgo.mono ?_
    rintro e w1 ⟨rfl, hb1⟩
    have HB1 := hid (HB0.out.trans (hb1.mono HB0.out.size))
    clear hgo hb1
    go_wp2
    go_ret2
    exact ⟨rfl, HB1.out⟩
  rw [decide_eq_false hGG] at hgo
  have HE : Hid (opE s k b hd = if (opX s k b hd).isSome then 0 else 51) := hid (if_neg hGG)
  have HO : Hid (opB s k b hd = (opX s k b hd).getD []) := hid (if_neg hGG)
  clear hGG
  go_enter Try.func12, Try.ntmps12
  go_wp2_with fail
  refine hgo.mono ?_
  rintro e w1 ⟨rfl, hb1⟩
  have HB1 := hid (HB0.out.trans (hb1.mono HB0.out.size))
  have HK1 := hid (HK0.out.keep (hb1.block w.heap.size HK0.out.lt))
  have g1 := (HH.out.bel HB1.out).cells.1
  clear hgo hb1 HB0 HK0
  generalize hn : s.L.length = n at *
  have HNN := hid hn
  clear hn
  go_wp2_with fail
  clear g1
  go_loopg [20] n (fun kk iv wr => ∃ (j : Nat), iv = .int .i64 (j : Int) ∧ Hid (kk = n - j) ∧ Hid (j ≤ n) ∧ Hid (Blk wr w.heap.size 32 #[.int .i64 k.t, .int .i64 k.c, .int .i64 k.e]) ∧ Hid (Below w.heap.size w wr) ∧ Hid (∀ i, ∀ hi : i < s.L.length, i < j → ¬ (i + 1 = hd ∧ s.L[i].k = k ∧ s.L[i].b = b)))
  case atStart => exact ⟨0, rfl, hid (by omega), hid (Nat.zero_le _), HK1, HB1, hid (fun i _ hi => absurd hi (by omega))⟩
  case round =>
  obtain ⟨j, rfl, hgk, hj, hK, hB, hno⟩ := hrel
  clear HB1 HK1
  rcases Nat.lt_or_ge j n with hlt | hge
  · have HLT := hid hlt
    obtain ⟨lb, rfl, hbl, hr0⟩ := (HH.out.bel hB.out).elem (j := j) (by rw [HNN.out]; exact HLT.out)
    have HQR := hid hr0
    have j1 : (0 : Int) ≤ (j : Int) := by omega
    have j2 : (j : Int) < (n : Int) := by omega
    have j3 : decide ((j : Int) < (n : Int)) = true := by simpa using hlt
    have j4 : decide (j < n) = true := by simpa using hlt
    have wj : wrap64 ((j : Int) + 1) = ((j + 1 : Nat) : Int) := by have := HLL.out; unfold wrap64; omega
    have wu1 : IntKind.u64.wrap (j : Int) = (j : Int) := wrapu (by omega) (by have := HLL.out; omega)
    have wu2 : IntKind.u64.wrap ((j : Int) + 1) = ((j + 1 : Nat) : Int) := by rw [wrapu (by omega) (by have := HLL.out; omega)]; rfl
    generalize hq : s.L[j]'(by rw [HNN.out]; exact HLT.out) = q at *
    have HQE := hid hq
    have hb2 : Below wr.heap.size wr (wr.alloc (.cells #[.int .i64 q.k.t, .int .i64 q.k.c, .int .i64 q.k.e, .string (str q.b), .string (str q.p)] 51)) := (Below.refl _ _).alloc (Nat.le_refl _) _
    have hK2 := hK.out.keep (hb2.block w.heap.size hK.out.lt)
    obtain ⟨c0, c1, c2⟩ := blk_cells hK2
    have HK2 := hid hK2
    have HB2 := hid (hB.out.trans (hb2.mono hB.out.size))
    have heq := eq_key q.k k
    clear hr0 hbl hq hb2 hK2 hlt hK hB
    have HNX : Hid (¬ (j + 1 = hd ∧ q.k = k ∧ q.b = b) → ∀ i, ∀ hi : i < s.L.length, i < j + 1 → ¬ (i + 1 = hd ∧ s.L[i].k = k ∧ s.L[i].b = b)) := hid (fun hne i hi hij => by
      by_cases e : i = j
      · subst e; rw [HQE.out]; exact hne
      · exact hno.out i hi (by omega))
    by_cases h1 : j + 1 = hd
    · subst h1
      by_cases h2 : q.k = k
      · rw [decide_eq_true h2] at heq
        by_cases h3 : q.b = b
        · have v5 : ((str q.b).toList == (str b).toList) = true := by rw [h3]; simp
          have HX : Hid (opX s k b (j + 1) = some q.p) := hid (by rw [← HQE.out]; exact opX_found (by rw [HNN.out]; exact HLT.out) (by rw [HQE.out]; exact h2) (by rw [HQE.out]; exact h3))
          clear h2 h3
          as_aux_lemma =>
          go_wp2_with (refine wpList_load_mid rfl 51 _ rfl lb (j * 5) rfl [.int .i64 q.k.t, .int .i64 q.k.c, .int .i64 q.k.e, .string (str q.b), .string (str q.p)] _ HQR.out Try.underlying51 rfl Try.infoEn1 ?_)
          go_ret2
          exact ⟨by rw [HE.out, HO.out, HX.out]; rfl, HB2.out⟩
        · have v5 := str_ne h3
          have HNO := hid (HNX.out (fun e => h3 e.2.2))
          clear h2 h3
          as_aux_lemma =>
          go_wp2_with (refine wpList_load_mid rfl 51 _ rfl lb (j * 5) rfl [.int .i64 q.k.t, .int .i64 q.k.c, .int .i64 q.k.e, .string (str q.b), .string (str q.p)] _ HQR.out Try.underlying51 rfl Try.infoEn1 ?_)
          go_roundg (n - (j + 1))
          case measure => have := hgk.out; have := HLT.out; omega
          case rel => exact ⟨j + 1, congrArg (Value.int .i64) (by first | exact wj | omega | rfl), hid rfl, hid (by have := HLT.out; omega), HK2, HB2, HNO⟩
      · rw [decide_eq_false h2] at heq
        have HNO := hid (HNX.out (fun e => h2 e.2.1))
        clear h2
        as_aux_lemma =>
        go_wp2_with (refine wpList_load_mid rfl 51 _ rfl lb (j * 5) rfl [.int .i64 q.k.t, .int .i64 q.k.c, .int .i64 q.k.e, .string (str q.b), .string (str q.p)] _ HQR.out Try.underlying51 rfl Try.infoEn1 ?_)
        go_roundg (n - (j + 1))
        case measure => have := hgk.out; have := HLT.out; omega
        case rel => exact ⟨j + 1, congrArg (Value.int .i64) (by first | exact wj | omega | rfl), hid rfl, hid (by have := HLT.out; omega), HK2, HB2, HNO⟩
    · obtain ⟨J, hJ⟩ : ∃ J : Nat, J = j + 1 := ⟨_, rfl⟩
      rw [← hJ] at wu2
      have e1 : ((J : Int) == (hd : Int)) = false := by simp; omega
      have e2 : decide ((J : Int) = (hd : Int)) = false := by simp; omega
      have e3 : (J == hd) = false := by simp; omega
      have e4 : decide (J = hd) = false := by simp; omega
      have e5 : ¬ J = hd := by omega
      have HJ := hid hJ
      clear hJ
      have HNO := hid (HNX.out (fun e => h1 e.1))
      clear h1
      as_aux_lemma =>
      go_wp2_with (refine wpList_load_mid rfl 51 _ rfl lb (j * 5) rfl [.int .i64 q.k.t, .int .i64 q.k.c, .int .i64 q.k.e, .string (str q.b), .string (str q.p)] _ HQR.out Try.underlying51 rfl Try.infoEn1 ?_)
      go_roundg (n - (j + 1))
      case measure => have := hgk.out; have := HLT.out; omega
      case rel => exact ⟨j + 1, congrArg (Value.int .i64) (by first | exact wj | omega | rfl), hid rfl, hid (by have := HLT.out; omega), HK2, HB2, HNO⟩
  · have j3 : decide ((j : Int) < (n : Int)) = false := by simp; omega
    have j4 : decide (j < n) = false := by simp; omega
    have HX : Hid (opX s k b hd = none) := hid (opX_none fun i hi => hno.out i hi (by have := HNN.out; omega))
    clear hge hgk hj
    as_aux_lemma =>
    go_wp2
    go_ret2
    exact ⟨by rw [HE.out, HO.out, HX.out]; rfl, hB.out⟩
end Go.Proofs.Ytaailoodhaibiaa
