/- What Seal of a vault does: a handle more, or an error. -/
import Derived.Test.YtaailoodhaibiaaVtOpen
namespace Go.Proofs.Ytaailoodhaibiaa
open Go.RowKit

theorem own_ge {w : World} {base : Nat} {e : TypeId} {z n c : Nat} {A : Option Addr} {xs : List Value} (h : w.ownsRow base e z (.slice A n c) n xs) (b : Nat) (hb : A.map (·.block) = some b) : base ≤ b := by
  rcases h.2 with ⟨hv, _⟩ | ⟨g, cap, cur, hv, h1, _⟩
  · injection hv with hA; subst hA; cases hb
  · injection hv with hA
    subst hA
    simp at hb
    omega
theorem VaAt.sealed {w w3 w4 w5 : World} {F : Nat → Prop} {g : Nat} {s : Va} {m : Nat} {A : Option Addr} {c : Nat} {es : List Ep} (h : VaAt w F g s m A c es) (k : Ky) (b l : List UInt8) {A3 : Option Addr} {c3 : Nat} (hl : l.length ≤ 65536) (hb3 : Below w.heap.size w w3)
    (ho3 : w3.ownsRow w.heap.size 5 1 (.slice A3 l.length c3) l.length (bs l)) (hb4 : Below w3.heap.size w3 w4) {A5 : Option Addr} {c5 : Nat}
    (ho5 : w5.ownsRow 0 65 5 (.slice A5 (es.length + 1) c5) (es.length + 1) (ecs es ++ (⟨k, b, l, A3, c3⟩ : Ep).cells)) (hg5 : w4.grownBy w5 (A.map (·.block))) (hA5 : ∀ d, A5.map (·.block) = some d → A.map (·.block) = some d ∨ d = w4.heap.size) :
    VLeft w (w5.setCell ⟨g, 0, none⟩ (.slice A5 (es.length + 1) c5)) F g ⟨s.L ++ [⟨k, b, l⟩], s.G⟩ := by
  have hg6 := grown_setCell w5 g 0 (.slice A5 (es.length + 1) c5)
  have s3 := hb3.size
  have s4 := hb4.size
  have s5 := hg5.size
  have s6 := hg6.size
  have lt := h.F
  have lg := lt g h.Fg
  have lm := lt m h.Fm
  have kF : ∀ j, j < w.heap.size → A.map (·.block) ≠ some j → w5.heap[j]? = w.heap[j]? := fun j hj hne => (hg5.block j (by omega) (fun e => hne e.symm)).trans ((hb4.block j (by omega)).trans (hb3.block j hj))
  have k6 : ∀ j, j < w5.heap.size → j ≠ g → (w5.setCell ⟨g, 0, none⟩ (.slice A5 (es.length + 1) c5)).heap[j]? = w5.heap[j]? := fun j hj hne => hg6.block j hj (fun e => hne (by injection e))
  have A1 : ∀ d, A5.map (·.block) = some d → d ≠ g ∧ d ≠ m ∧ (F d ∨ w.heap.size ≤ d) := fun d hd => by
    rcases hA5 d hd with e | e
    · exact ⟨(h.Ag d e).1, (h.Ag d e).2.1, .inl (h.Ag d e).2.2⟩
    · exact ⟨by omega, by omega, .inr (by omega)⟩
  have Ang : ∀ j, F j → j = g ∨ j = m → A.map (·.block) ≠ some j := fun j _ hj e => by rcases hj with rfl | rfl; exact (h.Ag _ e).1 rfl; exact (h.Ag _ e).2.1 rfl
  refine ⟨fun j => (F j ∨ w.heap.size ≤ j) ∧ j < w5.heap.size, ⟨m, A5, c5, es ++ [⟨k, b, l, A3, c3⟩], ?_, ?_, ?_, ?_, ?_, h.gm, fun d hd => ?_, ⟨.inl h.Fg, by omega⟩, ⟨.inl h.Fm, by omega⟩, fun j hj => by have := hj.2; omega⟩, ?_, fun j hj => hj.1⟩
  · rw [List.length_append]
    exact (h.blk.keep (kF g lg (Ang g h.Fg (.inl rfl)))).store 0 (.slice A5 (es.length + 1) c5)
  · rw [List.length_append, ecs_app, ecs_one]
    exact own_keep ho5 fun d hd => k6 d (own_lt ho5 d hd) (A1 d hd).1
  · rw [List.map_append, h.ens]
    rfl
  · intro x hx
    rcases List.mem_append.1 hx with hx | hx
    · obtain ⟨x1, x2, x3⟩ := h.bts x hx
      refine ⟨x1.at1 (by omega) fun u hu => ?_, x2, fun u hu => ?_⟩
      · obtain ⟨y1, y2, y3, y4⟩ := x3 u hu
        have := lt u y1
        exact (k6 u (by omega) y2).trans (kF u this y4)
      · obtain ⟨y1, y2, y3, y4⟩ := x3 u hu
        have := lt u y1
        exact ⟨⟨.inl y1, by omega⟩, y2, y3, fun e => by rcases hA5 u e with e | e; exact y4 e; omega⟩
    · rw [List.mem_singleton] at hx
      subst hx
      have hBt := Bts.own ho3
      refine ⟨(hBt.wide (Nat.zero_le _) (Nat.le_refl _)).at1 (by omega) fun u hu => ?_, hl, fun u hu => ?_⟩
      · have u1 := own_ge ho3 u hu
        have u2 := own_lt ho3 u hu
        exact (k6 u (by omega) (by omega)).trans ((hg5.block u (by omega) (fun e => by have := lt u (h.Ag u e.symm).2.2; omega)).trans (hb4.block u u2))
      · have u1 := own_ge ho3 u hu
        have u2 := own_lt ho3 u hu
        exact ⟨⟨.inr u1, by omega⟩, by omega, by omega, fun e => by
          rcases hA5 u e with e | e
          · have := lt u (h.Ag u e).2.2; omega
          · omega⟩
  · obtain ⟨n, D, h1, h2⟩ := h.map
    exact ⟨n, D, ownsMap_keep h1 ((k6 m (by omega) (Ne.symm h.gm)).trans (kF m lm (Ang m h.Fm (.inr rfl)))), h2⟩
  · exact ⟨(A1 d hd).1, (A1 d hd).2.1, (A1 d hd).2.2, own_lt ho5 d hd⟩
  · exact ⟨hg6.os.trans (hg5.os.trans (hb4.os.trans hb3.os)), hg6.tape.trans (hg5.tape.trans (hb4.tape.trans hb3.tape)), hg6.output.trans (hg5.output.trans (hb4.output.trans hb3.output)), by omega, fun j hj hF =>
      (k6 j (by omega) (fun e => hF (e ▸ h.Fg))).trans (kF j hj fun e => hF (h.Ag j e).2.2)⟩

theorem built_seal (k : Ky) (s : ByteArray) (A : Option Addr) (n c : Nat) : Try.prog.built 65 [(0, (.agg #[.int .i64 (k).t, .int .i64 (k).c, .int .i64 (k).e])), (1, .string s), (2, .slice A n c)] = some #[.int .i64 k.t, .int .i64 k.c, .int .i64 k.e, .string s, .slice A n c] := by kernel_rfl
theorem filled_seal (k : Ky) (s : ByteArray) (A : Option Addr) (n c : Nat) : Instr.fill (fun j => some (j * 5, 5)) ((Array.range (1 * 5)).map ((#[.int .i64 0, .int .i64 0, .int .i64 0, .string ⟨#[]⟩, .slice none 0 0] : Array Value)[· % 5]!)) [(0, .agg #[.int .i64 k.t, .int .i64 k.c, .int .i64 k.e, .string s, .slice A n c])] = some #[.int .i64 k.t, .int .i64 k.c, .int .i64 k.e, .string s, .slice A n c] := by kernel_rfl

theorem seal_nil (w : World) (k : Ky) (b : ByteArray) (A : Option Addr) (n c : Nat) :
    Calls Try.prog 9 #[.pointer none, (.agg #[.int .i64 (k).t, .int .i64 (k).c, .int .i64 (k).e]), .string b, .slice A n c] w fun e w' => e = .returned (.tuple #[.int .u64 0, .int .i64 1]) ∧ Below w.heap.size w w' := by
  have HB1 : Hid (Below w.heap.size w (w.alloc (.cells #[.int .i64 k.t, .int .i64 k.c, .int .i64 k.e] 32))) := hid ((Below.refl _ _).alloc (Nat.le_refl _) _)
  go_enter Try.func9, Try.ntmps9
  go_wp2
  go_ret2
  exact ⟨rfl, HB1.out⟩

set_option maxRecDepth 20000 in
set_option maxHeartbeats 4000000 in
theorem seal_any (w : World) (F : Nat → Prop) (g : Nat) (s : Va) (h : Vlt w F g s) (k : Ky) (hk : k.wf) (b : List UInt8) (PA : Option Addr) (n pc : Nat) (l : List UInt8) (hp : Bts w 0 w.heap.size PA n l) (hL : s.L.length ≤ 1000000) :
    Calls Try.prog 9 #[.pointer (some ⟨g, 0, none⟩), (.agg #[.int .i64 (k).t, .int .i64 (k).c, .int .i64 (k).e]), .string (str b), .slice PA n pc] w fun e w' => e = .returned (.tuple #[.int .u64 (seH s k l.length : Int), .int .i64 (seE s k l.length)]) ∧ VLeft w w' F g (seS s k b l) := by
  obtain rfl := hp.len
  obtain ⟨m, A, c, es, h⟩ := h
  have hb1 : Below w.heap.size w (w.alloc (.cells #[.int .i64 k.t, .int .i64 k.c, .int .i64 k.e] 32)) := (Below.refl _ _).alloc (Nat.le_refl _) _
  have hB := Blk.new w 32 #[.int .i64 k.t, .int .i64 k.c, .int .i64 k.e]
  have hs1 : (w.alloc (.cells #[.int .i64 k.t, .int .i64 k.c, .int .i64 k.e] 32)).heap.size = w.heap.size + 1 := by simp
  have hri := right_c k (w.alloc (.cells #[.int .i64 k.t, .int .i64 k.c, .int .i64 k.e] 32))
  have HB1 := hid hb1
  have HV := hid h
  have HS1 := hid hs1
  have HBK := hid hB
  have HK := hid hk
  have HP := hid hp
  have HL := hid hL
  by_cases hbad : ¬ k.right ∨ 65536 < l.length
  · have HE : Hid (seE s k l.length = 2) := hid (if_pos hbad)
    have HH : Hid (seH s k l.length = 0) := hid (if_pos hbad)
    have HS : Hid (seS s k b l = s) := hid (if_pos hbad)
    rw [HE.out, HH.out, HS.out]
    clear h hk hp hL hb1 hs1 hB HE HH HS HL HK
    go_enter Try.func9, Try.ntmps9
    by_cases hr : k.right
    · rw [decide_eq_true hr] at hri
      have e1 : decide ((65536 : Int) < (l.length : Int)) = true := by simp; rcases hbad with hb | hb; exact absurd hr hb; omega
      clear hbad hr
      go_wp2_with fail
      refine hri.mono ?_
      rintro e w2 ⟨rfl, hb2⟩
      have HB2 := hid (HB1.out.trans (hb2.mono HB1.out.size))
      clear hri hb2
      go_wp2
      go_ret2
      exact ⟨rfl, VLeft.same ⟨m, A, c, es, HV.out⟩ HB2.out⟩
    · rw [decide_eq_false hr] at hri
      clear hbad hr
      go_wp2_with fail
      refine hri.mono ?_
      rintro e w2 ⟨rfl, hb2⟩
      have HB2 := hid (HB1.out.trans (hb2.mono HB1.out.size))
      clear hri hb2
      go_wp2
      go_ret2
      exact ⟨rfl, VLeft.same ⟨m, A, c, es, HV.out⟩ HB2.out⟩
  · have hr : k.right := Classical.byContradiction fun e => hbad (.inl e)
    have hl : l.length ≤ 65536 := by omega
    have e1 : decide ((65536 : Int) < (l.length : Int)) = false := by simp; omega
    have HLL := hid hl
    rw [decide_eq_true hr] at hri
    have HK2 : Hid (∀ w2, Below (w.heap.size + 1) (w.alloc (.cells #[.int .i64 k.t, .int .i64 k.c, .int .i64 k.e] 32)) w2 → Blk w2 w.heap.size 32 #[.int .i64 k.t, .int .i64 k.c, .int .i64 k.e]) := hid (fun w2 hb2 => hB.keep (hb2.block w.heap.size (by omega)))
    by_cases hG : k ∈ s.G
    · have HE : Hid (seE s k l.length = 50) := hid ((if_neg hbad).trans (if_pos hG))
      have HH : Hid (seH s k l.length = 0) := hid ((if_neg hbad).trans (if_pos hG))
      have HS : Hid (seS s k b l = s) := hid ((if_neg hbad).trans (if_pos hG))
      rw [HE.out, HH.out, HS.out]
      have HGG : Hid (decide (k ∈ s.G) = true) := hid (decide_eq_true hG)
      clear h hk hp hL hb1 hs1 hB HE HH HS HL hG hbad hr hl
      go_enter Try.func9, Try.ntmps9
      go_wp2_with fail
      refine hri.mono ?_
      rintro e w2 ⟨rfl, hb2⟩
      have hgo := gone_c w2 F g s ⟨m, A, c, es, (HV.out.bel HB1.out).bel hb2⟩ k HK.out
      rw [HGG.out] at hgo
      have hK2 := HK2.out w2 (by rw [← HS1.out]; exact hb2)
      have c0 := hK2.cell 0
      have c1 := hK2.cell 1
      have c2 := hK2.cell 2
      simp only [List.getElem?_toArray, List.getElem?_cons_zero, List.getElem?_cons_succ] at c0 c1 c2
      have HB2 := hid (HB1.out.trans (hb2.mono HB1.out.size))
      clear hri hb2 hK2 HK2
      go_wp2_with fail
      refine hgo.mono ?_
      rintro e w3 ⟨rfl, hb3⟩
      have HB3 := hid (HB2.out.trans (hb3.mono HB2.out.size))
      clear hgo hb3 c0 c1 c2
      go_wp2
      go_ret2
      exact ⟨rfl, VLeft.same ⟨m, A, c, es, HV.out⟩ HB3.out⟩
    · have HE : Hid (seE s k l.length = 0) := hid ((if_neg hbad).trans (if_neg hG))
      have HH : Hid (seH s k l.length = es.length + 1) := hid (((if_neg hbad).trans (if_neg hG)).trans (by rw [h.len]))
      have HS : Hid (seS s k b l = ⟨s.L ++ [⟨k, b, l⟩], s.G⟩) := hid ((if_neg hbad).trans (if_neg hG))
      rw [HE.out, HH.out, HS.out]
      have HGG : Hid (decide (k ∈ s.G) = false) := hid (decide_eq_false hG)
      have HLE : Hid (es.length ≤ 1000000) := hid (by rw [h.len]; exact hL)
      have hgw := h.F g h.Fg
      have HGW := hid hgw
      have HVF := hid h.F
      have wu : IntKind.u64.wrap ((es.length + 1 : Nat) : Int) = ((es.length + 1 : Nat) : Int) := wrapu (by omega) (by have := HLE.out; omega)
      clear h hk hp hL hb1 hs1 hB HE HH HS HL hG hbad hr hl hgw
      generalize hNN : es.length + 1 = NN at *
      have HNN := hid hNN
      clear hNN
      go_enter Try.func9, Try.ntmps9
      go_wp2_with fail
      refine hri.mono ?_
      rintro e w1 ⟨rfl, hb2⟩
      have hgo := gone_c w1 F g s ⟨m, A, c, es, (HV.out.bel HB1.out).bel hb2⟩ k HK.out
      rw [HGG.out] at hgo
      have hK2 := HK2.out w1 (by rw [← HS1.out]; exact hb2)
      have HKK := hid hK2
      have c0 := hK2.cell 0
      have c1 := hK2.cell 1
      have c2 := hK2.cell 2
      simp only [List.getElem?_toArray, List.getElem?_cons_zero, List.getElem?_cons_succ] at c0 c1 c2
      have HB2 := hid (HB1.out.trans (hb2.mono HB1.out.size))
      clear hri hb2 hK2 HK2 HB1 HBK HS1
      go_wp2_with fail
      refine hgo.mono ?_
      rintro e w2 ⟨rfl, hb3⟩
      have HB3 := hid (HB2.out.trans (hb3.mono HB2.out.size))
      have HV3 := hid (HV.out.bel HB3.out)
      have HK3 := hid (HKK.out.keep (hb3.block w.heap.size HKK.out.lt))
      have HP3 := hid ((HP.out.below HB3.out (Nat.le_refl _)).wide (Nat.le_refl _) HB3.out.size)
      have HNF : Hid (∀ j, F j → j ≠ w.heap.size) := hid (fun j hj e => by have := HVF.out j hj; omega)
      have HKW : Hid (w.heap.size < w2.heap.size) := hid HK3.out.lt
      have yd := HV3.out.cells.1
      clear hgo hb3 c0 c1 c2 HB2 HKK HP HV HGG HK e1 HVF
      go_wp2_with fail
      refine wp_region_held_drew (S := fun wx => wx.heap[w.heap.size]? = w2.heap[w.heap.size]?) (by kernel_rfl) rfl (fun HS => ?_)
      refine wpAnyH_take (i := 0) (oi := ?oi0) (v := ?v0) ?hi0 (by kernel_rfl) (by kernel_rfl) (by kernel_rfl) ?hQ0 ?hy0 HS ?rest0
      case hi0 => simp only [List.getElem?_toArray, List.getElem?_cons_zero]; exact rfl
      case hQ0 => exact fun _ _ _ h => h
      case hy0 =>
        refine Or.inl ⟨by rfl, ?_⟩
        intro wS hSw
        go_simp
        try with_reducible rfl
      try simp only [Act.put, List.setIfInBounds_toArray, List.set_cons_zero, List.set_cons_succ]
      refine wpAnyH_take (i := 1) (oi := ?oi1) (v := ?v1) ?hi1 (by kernel_rfl) (by kernel_rfl) (by kernel_rfl) ?hQ1 ?hy1 HS ?rest1
      case hi1 => simp only [List.getElem?_toArray, List.getElem?_cons_succ, List.getElem?_cons_zero]; exact rfl
      case hQ1 => exact fun _ _ _ h => h
      case hy1 =>
        refine Or.inl ⟨by rfl, ?_⟩
        intro wS hSw
        go_simp
        try with_reducible rfl
      try simp only [Act.put, List.setIfInBounds_toArray, List.set_cons_zero, List.set_cons_succ]
      refine wpAnyH_take (i := 2) (oi := ?oi2) (v := ?v2) ?hi2 (by kernel_rfl) (by kernel_rfl) (by kernel_rfl) ?hQ2 ?hy2 HS ?rest2
      case hi2 => simp only [List.getElem?_toArray, List.getElem?_cons_succ, List.getElem?_cons_zero]; exact rfl
      case hQ2 => exact fun _ _ _ h => h
      case hy2 =>
        refine Or.inl ⟨by rfl, ?_⟩
        intro wS hSw
        go_simp
        try with_reducible rfl
      try simp only [Act.put, List.setIfInBounds_toArray, List.set_cons_zero, List.set_cons_succ]
      refine wpAnyH_take (i := 3) (oi := ?oi3) (v := ?v3) ?hi3 (by kernel_rfl) (by kernel_rfl) (by kernel_rfl) ?hQ3 ?hy3 HS ?rest3
      case hi3 => simp only [List.getElem?_toArray, List.getElem?_cons_succ, List.getElem?_cons_zero]; exact rfl
      case hQ3 => exact fun _ _ _ h => h
      case hy3 =>
        refine Or.inl ⟨by rfl, ?_⟩
        intro wS hSw
        go_simp
        try with_reducible rfl
      try simp only [Act.put, List.setIfInBounds_toArray, List.set_cons_zero, List.set_cons_succ]
      refine wpAnyH_take (i := 5) (oi := ?oi5) (v := ?v5) ?hi5 (by kernel_rfl) (by kernel_rfl) (by kernel_rfl) ?hQ5 ?hy5 HS ?rest5
      case hi5 => simp only [List.getElem?_toArray, List.getElem?_cons_succ, List.getElem?_cons_zero]; exact rfl
      case hQ5 => exact fun _ _ _ h => h
      case hy5 =>
        refine Or.inl ⟨by rfl, ?_⟩
        intro wS hSw
        have hKS := HK3.out.keep hSw
        have c0 := hKS.cell 0
        have c1 := hKS.cell 1
        have c2 := hKS.cell 2
        simp only [List.getElem?_toArray, List.getElem?_cons_zero, List.getElem?_cons_succ] at c0 c1 c2
        go_simp
        try with_reducible rfl
      try simp only [Act.put, List.setIfInBounds_toArray, List.set_cons_zero, List.set_cons_succ]
      refine wpAnyH_take (i := 6) (oi := ?oi6) (v := ?v6) ?hi6 (by kernel_rfl) (by kernel_rfl) (by kernel_rfl) ?hQ6 ?hy6 HS ?rest6
      case hi6 => simp only [List.getElem?_toArray, List.getElem?_cons_succ, List.getElem?_cons_zero]; exact rfl
      case hQ6 => exact fun _ _ _ h => h
      case hy6 =>
        refine Or.inl ⟨by rfl, ?_⟩
        intro wS hSw
        go_simp
        try with_reducible rfl
      try simp only [Act.put, List.setIfInBounds_toArray, List.set_cons_zero, List.set_cons_succ]
      refine wpAnyH_take (i := 7) (oi := ?oi7) (v := ?v7) ?hi7 (by kernel_rfl) (by kernel_rfl) (by kernel_rfl) ?hQ7 ?hy7 HS ?rest7
      case hi7 => simp only [List.getElem?_toArray, List.getElem?_cons_succ, List.getElem?_cons_zero]; exact rfl
      case hQ7 => exact fun _ _ _ h => h
      case hy7 =>
        refine Or.inl ⟨by rfl, ?_⟩
        intro wS hSw
        go_simp
        try with_reducible rfl
      try simp only [Act.put, List.setIfInBounds_toArray, List.set_cons_zero, List.set_cons_succ]
      refine wpAnyH_ready (rs := [4, 8]) (by kernel_rfl) (by simp) ?_
      refine (AllReadyH.cons (o := ?o4) ?ho4 (fun K hK => ?step4) (AllReadyH.cons (o := ?o8) ?ho8 (fun K hK => ?step8) AllReadyH.nil))
      case ho4 => simp only [List.getElem?_toArray, List.getElem?_cons_succ, List.getElem?_cons_zero]; exact rfl
      case ho8 => simp only [List.getElem?_toArray, List.getElem?_cons_succ, List.getElem?_cons_zero]; exact rfl
      case step4 =>
        rw [if_pos (by rfl)]
        refine wp_load_slice 59 (.tmp 26) rfl 65 Try.underlying59 g 0 rfl _ (by simpa using yd) ?_
        refine hK.out _ _ rfl (fun HS => ?_)
        clear hK K
        try simp only [Act.put, List.setIfInBounds_toArray, List.set_cons_zero, List.set_cons_succ]
        refine wpAnyH_ready (rs := [8]) (by kernel_rfl) (by simp) ?_
        refine AllReadyH.cons (o := ?oq8) ?hoq8 (fun K hK => ?stepq8) AllReadyH.nil
        case hoq8 => simp only [List.getElem?_toArray, List.getElem?_cons_succ, List.getElem?_cons_zero]; exact rfl
        go_simp
        refine (own_c PA l.length pc l w2.drew (HP3.out.below (Below.refl _ _).drew (Nat.le_refl _)) HLL.out).mono ?_
        rintro e w3 ⟨A3, c3, rfl, ho3, hb3⟩
        have HO3 : Hid (w3.ownsRow w2.heap.size 5 1 (.slice A3 l.length c3) l.length (bs l)) := hid ho3
        have HB3' : Hid (Below w2.heap.size w2 w3) := hid ((Below.refl _ _).drew.trans (hb3.mono (by simp)))
        clear ho3 hb3
        refine hK.out _ _ (HB3'.out.block w.heap.size HKW.out) (fun HS => ?_)
        clear hK K
        try simp only [Act.put, List.setIfInBounds_toArray, List.set_cons_zero, List.set_cons_succ]
        refine wpAnyH_take (i := 9) (oi := ?oiq9) (v := ?vq9) ?hiq9 (by kernel_rfl) (by kernel_rfl) (by kernel_rfl) ?hQq9 ?hyq9 HS ?restq9
        case hiq9 => simp only [List.getElem?_toArray, List.getElem?_cons_succ, List.getElem?_cons_zero]; exact rfl
        case hQq9 => exact fun _ _ _ h => h
        case hyq9 =>
          refine Or.inl ⟨by rfl, ?_⟩
          intro wS hSw
          refine Eq.trans (exec_build 65 #[(0, .tmp 28), (1, .tmp 29), (2, .tmp 31)] ?_ #[(0, (.agg #[.int .i64 (k).t, .int .i64 (k).c, .int .i64 (k).e])), (1, .string (str b)), (2, .slice A3 l.length c3)] ?_ _ (built_seal k (str b) A3 l.length c3)) ?_
          · rfl
          · simp only [List.map_toArray, List.map_cons, List.map_nil]; rfl
          · with_reducible rfl
        try simp only [Act.put, List.setIfInBounds_toArray, List.set_cons_zero, List.set_cons_succ]
        refine wpAnyH_ready (rs := [10]) (by kernel_rfl) (by simp) ?_
        refine AllReadyH.cons (o := ?oqe10) ?hoqe10 (fun K hK => ?stepqe10) AllReadyH.nil
        case hoqe10 => simp only [List.getElem?_toArray, List.getElem?_cons_succ, List.getElem?_cons_zero]; exact rfl
        rw [if_pos (by rfl)]
        obtain ⟨ie, hie, hz0, hz1, hz2⟩ := info_parts Try.infoSe
        refine wp_buildSlice 59 65 1 _ rfl #[.int .i64 k.t, .int .i64 k.c, .int .i64 k.e, .string (str b), .slice A3 l.length c3] ie _ Try.underlying59 hie hz0 (by rw [hz1]; decide) (by rw [hz1]; decide) (by rw [hz1]; simp only [List.map_toArray, List.map_cons, List.map_nil]; exact filled_seal k (str b) A3 l.length c3) ?_
        have HB4 : Hid (Below w3.heap.size w3 (w3.alloc (.cells #[.int .i64 k.t, .int .i64 k.c, .int .i64 k.e, .string (str b), .slice A3 l.length c3] 65))) := hid ((Below.refl _ _).alloc (Nat.le_refl _) _)
        have HN4 : Hid ((w3.alloc (.cells #[.int .i64 k.t, .int .i64 k.c, .int .i64 k.e, .string (str b), .slice A3 l.length c3] 65)).rangeAt w3.heap.size 0 (⟨k, b, l, A3, c3⟩ : Ep).cells) := hid (fun j v hv => by
          have := (Blk.new w3 65 #[.int .i64 k.t, .int .i64 k.c, .int .i64 k.e, .string (str b), .slice A3 l.length c3]).cell (0 + j)
          rw [this, Nat.zero_add, List.getElem?_toArray]
          exact hv)
        generalize hw4 : w3.alloc (.cells #[.int .i64 k.t, .int .i64 k.c, .int .i64 k.e, .string (str b), .slice A3 l.length c3] 65) = w4 at *
        clear hw4
        refine hK.out _ _ ((HB4.out.block w.heap.size (by have := HKW.out; have := HB3'.out.size; omega)).trans (HB3'.out.block w.heap.size HKW.out)) (fun HS => ?_)
        clear hK K
        try simp only [Act.put, List.setIfInBounds_toArray, List.set_cons_zero, List.set_cons_succ]
        refine wpAnyH_ready (rs := [11]) (by kernel_rfl) (by simp) ?_
        refine AllReadyH.cons (o := ?oqed11) ?hoqed11 (fun K hK => ?stepqed11) AllReadyH.nil
        case hoqed11 => simp only [List.getElem?_toArray, List.getElem?_cons_succ, List.getElem?_cons_zero]; exact rfl
        rw [if_pos (by rfl)]
        refine wp_append_z 59 65 _ 5 64 Try.underlying59 Try.infoSe rfl (by decide) (by decide) _ _ rfl A es.length c (ecs es) rfl (own_keep HV3.out.row fun d hd => (HB4.out.block d (by have := own_lt HV3.out.row d hd; have := HB3'.out.size; omega)).trans (HB3'.out.block d (own_lt HV3.out.row d hd))) w3.heap.size rfl (⟨k, b, l, A3, c3⟩ : Ep).cells rfl HN4.out (ep_cell _) HLE.out ?_
        intro A5 c5 w5 ho5 hg5 hA5
        have HL5 := hid (VaAt.sealed HV3.out k b l HLL.out HB3'.out HO3.out HB4.out ho5 hg5 hA5)
        have eg5 : w5.heap[g]? = w2.heap[g]? := (hg5.block g (by have := HV3.out.blk.lt; have := HB3'.out.size; have := HB4.out.size; omega) (fun e => (HV3.out.Ag g e.symm).1 rfl)).trans ((HB4.out.block g (by have := HV3.out.blk.lt; have := HB3'.out.size; omega)).trans (HB3'.out.block g HV3.out.blk.lt))
        have f5 := (HV3.out.blk.keep eg5).frozen 0
        have u0 := (HV3.out.blk.keep eg5).cell 0
        simp only [List.getElem?_toArray, List.getElem?_cons_zero] at u0
        have HKB : Hid (w5.heap[w.heap.size]? = w2.heap[w.heap.size]?) := hid ((hg5.block w.heap.size (by have := HKW.out; have := HB3'.out.size; have := HB4.out.size; omega) (fun e => HNF.out w.heap.size (HV3.out.Ag w.heap.size e.symm).2.2 rfl)).trans ((HB4.out.block w.heap.size (by have := HKW.out; have := HB3'.out.size; omega)).trans (HB3'.out.block w.heap.size HKW.out)))
        have HV0 : Hid ((w5.setCell ⟨g, 0, none⟩ (.slice A5 (es.length + 1) c5)).cell? ⟨g, 0, none⟩ = some (.slice A5 (es.length + 1) c5)) := hid (by simpa using ((HV3.out.blk.keep eg5).store 0 (.slice A5 (es.length + 1) c5)).cell 0)
        clear ho5 hg5 hA5 eg5
        rw [HNN.out] at *
        refine hK.out _ _ HKB.out (fun HS => ?_)
        clear hK K
        try simp only [Act.put, List.setIfInBounds_toArray, List.set_cons_zero, List.set_cons_succ]
        refine wpAnyH_take (i := 12) (oi := ?oiqed12) (v := ?vqed12) ?hiqed12 (by kernel_rfl) (by kernel_rfl) (by kernel_rfl) ?hQqed12 ?hyqed12 HS ?restqed12
        case hiqed12 => simp only [List.getElem?_toArray, List.getElem?_cons_succ, List.getElem?_cons_zero]; exact rfl
        case hQqed12 => exact fun _ _ _ h => h
        case hyqed12 =>
          refine Or.inl ⟨by rfl, ?_⟩
          intro wS hSw
          go_simp
          try with_reducible rfl
        try simp only [Act.put, List.setIfInBounds_toArray, List.set_cons_zero, List.set_cons_succ]
        refine wpAnyH_take (i := 13) (oi := ?oiqed13) (v := ?vqed13) ?hiqed13 (by kernel_rfl) (by kernel_rfl) (by kernel_rfl) ?hQqed13 ?hyqed13 HS ?restqed13
        case hiqed13 => simp only [List.getElem?_toArray, List.getElem?_cons_succ, List.getElem?_cons_zero]; exact rfl
        case hQqed13 => exact fun _ _ _ h => h
        case hyqed13 =>
          refine Or.inl ⟨by rfl, ?_⟩
          intro wS hSw
          go_simp
          try with_reducible rfl
        try simp only [Act.put, List.setIfInBounds_toArray, List.set_cons_zero, List.set_cons_succ]
        refine wpAnyH_ready (rs := [14]) (by kernel_rfl) (by simp) ?_
        refine AllReadyH.cons (o := ?oqed14) ?hoqed14 (fun K hK => ?stepqed14) AllReadyH.nil
        case hoqed14 => simp only [List.getElem?_toArray, List.getElem?_cons_succ, List.getElem?_cons_zero]; exact rfl
        go_simp
        refine hK.out _ _ ((Below.heap_setCell w5 ⟨g, 0, none⟩ _ w.heap.size (fun e => by have e' : w.heap.size = g := e; have := HGW.out; omega)).trans HKB.out) (fun HS => ?_)
        clear hK K
        try simp only [Act.put]
        refine wpAnyH_done (by kernel_rfl) ?_ _
        clear HS HKB u0 f5
        have v0 := HV0.out
        go_wp2
        go_ret2
        exact ⟨rfl, VLeft.after HB3.out HL5.out⟩
      case step8 =>
        go_simp
        refine (own_c PA l.length pc l w2.drew (HP3.out.below (Below.refl _ _).drew (Nat.le_refl _)) HLL.out).mono ?_
        rintro e w3 ⟨A3, c3, rfl, ho3, hb3⟩
        have HO3 : Hid (w3.ownsRow w2.heap.size 5 1 (.slice A3 l.length c3) l.length (bs l)) := hid ho3
        have HB3' : Hid (Below w2.heap.size w2 w3) := hid ((Below.refl _ _).drew.trans (hb3.mono (by simp)))
        clear ho3 hb3
        refine hK.out _ _ (HB3'.out.block w.heap.size HKW.out) (fun HS => ?_)
        clear hK K
        try simp only [Act.put, List.setIfInBounds_toArray, List.set_cons_zero, List.set_cons_succ]
        refine wpAnyH_take (i := 9) (oi := ?oip9) (v := ?vp9) ?hip9 (by kernel_rfl) (by kernel_rfl) (by kernel_rfl) ?hQp9 ?hyp9 HS ?restp9
        case hip9 => simp only [List.getElem?_toArray, List.getElem?_cons_succ, List.getElem?_cons_zero]; exact rfl
        case hQp9 => exact fun _ _ _ h => h
        case hyp9 =>
          refine Or.inl ⟨by rfl, ?_⟩
          intro wS hSw
          refine Eq.trans (exec_build 65 #[(0, .tmp 28), (1, .tmp 29), (2, .tmp 31)] ?_ #[(0, (.agg #[.int .i64 (k).t, .int .i64 (k).c, .int .i64 (k).e])), (1, .string (str b)), (2, .slice A3 l.length c3)] ?_ _ (built_seal k (str b) A3 l.length c3)) ?_
          · rfl
          · simp only [List.map_toArray, List.map_cons, List.map_nil]; rfl
          · with_reducible rfl
        try simp only [Act.put, List.setIfInBounds_toArray, List.set_cons_zero, List.set_cons_succ]
        refine wpAnyH_ready (rs := [4, 10]) (by kernel_rfl) (by simp) ?_
        refine (AllReadyH.cons (o := ?ope4) ?hope4 (fun K hK => ?steppe4) (AllReadyH.cons (o := ?ope10) ?hope10 (fun K hK => ?steppe10) AllReadyH.nil))
        case hope4 => simp only [List.getElem?_toArray, List.getElem?_cons_succ, List.getElem?_cons_zero]; exact rfl
        case hope10 => simp only [List.getElem?_toArray, List.getElem?_cons_succ, List.getElem?_cons_zero]; exact rfl
        case steppe4 =>
          rw [if_pos (by rfl)]
          refine wp_load_slice 59 (.tmp 26) rfl 65 Try.underlying59 g 0 rfl _ ((World.cell?_of_block (HB3'.out.block g HV3.out.blk.lt)).trans yd) ?_
          refine hK.out _ _ (HB3'.out.block w.heap.size HKW.out) (fun HS => ?_)
          clear hK K
          try simp only [Act.put, List.setIfInBounds_toArray, List.set_cons_zero, List.set_cons_succ]
          refine wpAnyH_ready (rs := [10]) (by kernel_rfl) (by simp) ?_
          refine AllReadyH.cons (o := ?opea10) ?hopea10 (fun K hK => ?steppea10) AllReadyH.nil
          case hopea10 => simp only [List.getElem?_toArray, List.getElem?_cons_succ, List.getElem?_cons_zero]; exact rfl
          rw [if_pos (by rfl)]
          obtain ⟨ie, hie, hz0, hz1, hz2⟩ := info_parts Try.infoSe
          refine wp_buildSlice 59 65 1 _ rfl #[.int .i64 k.t, .int .i64 k.c, .int .i64 k.e, .string (str b), .slice A3 l.length c3] ie _ Try.underlying59 hie hz0 (by rw [hz1]; decide) (by rw [hz1]; decide) (by rw [hz1]; simp only [List.map_toArray, List.map_cons, List.map_nil]; exact filled_seal k (str b) A3 l.length c3) ?_
          have HB4 : Hid (Below w3.heap.size w3 (w3.alloc (.cells #[.int .i64 k.t, .int .i64 k.c, .int .i64 k.e, .string (str b), .slice A3 l.length c3] 65))) := hid ((Below.refl _ _).alloc (Nat.le_refl _) _)
          have HN4 : Hid ((w3.alloc (.cells #[.int .i64 k.t, .int .i64 k.c, .int .i64 k.e, .string (str b), .slice A3 l.length c3] 65)).rangeAt w3.heap.size 0 (⟨k, b, l, A3, c3⟩ : Ep).cells) := hid (fun j v hv => by
            have := (Blk.new w3 65 #[.int .i64 k.t, .int .i64 k.c, .int .i64 k.e, .string (str b), .slice A3 l.length c3]).cell (0 + j)
            rw [this, Nat.zero_add, List.getElem?_toArray]
            exact hv)
          generalize hw4 : w3.alloc (.cells #[.int .i64 k.t, .int .i64 k.c, .int .i64 k.e, .string (str b), .slice A3 l.length c3] 65) = w4 at *
          clear hw4
          refine hK.out _ _ ((HB4.out.block w.heap.size (by have := HKW.out; have := HB3'.out.size; omega)).trans (HB3'.out.block w.heap.size HKW.out)) (fun HS => ?_)
          clear hK K
          try simp only [Act.put, List.setIfInBounds_toArray, List.set_cons_zero, List.set_cons_succ]
          refine wpAnyH_ready (rs := [11]) (by kernel_rfl) (by simp) ?_
          refine AllReadyH.cons (o := ?opead11) ?hopead11 (fun K hK => ?steppead11) AllReadyH.nil
          case hopead11 => simp only [List.getElem?_toArray, List.getElem?_cons_succ, List.getElem?_cons_zero]; exact rfl
          rw [if_pos (by rfl)]
          refine wp_append_z 59 65 _ 5 64 Try.underlying59 Try.infoSe rfl (by decide) (by decide) _ _ rfl A es.length c (ecs es) rfl (own_keep HV3.out.row fun d hd => (HB4.out.block d (by have := own_lt HV3.out.row d hd; have := HB3'.out.size; omega)).trans (HB3'.out.block d (own_lt HV3.out.row d hd))) w3.heap.size rfl (⟨k, b, l, A3, c3⟩ : Ep).cells rfl HN4.out (ep_cell _) HLE.out ?_
          intro A5 c5 w5 ho5 hg5 hA5
          have HL5 := hid (VaAt.sealed HV3.out k b l HLL.out HB3'.out HO3.out HB4.out ho5 hg5 hA5)
          have eg5 : w5.heap[g]? = w2.heap[g]? := (hg5.block g (by have := HV3.out.blk.lt; have := HB3'.out.size; have := HB4.out.size; omega) (fun e => (HV3.out.Ag g e.symm).1 rfl)).trans ((HB4.out.block g (by have := HV3.out.blk.lt; have := HB3'.out.size; omega)).trans (HB3'.out.block g HV3.out.blk.lt))
          have f5 := (HV3.out.blk.keep eg5).frozen 0
          have u0 := (HV3.out.blk.keep eg5).cell 0
          simp only [List.getElem?_toArray, List.getElem?_cons_zero] at u0
          have HKB : Hid (w5.heap[w.heap.size]? = w2.heap[w.heap.size]?) := hid ((hg5.block w.heap.size (by have := HKW.out; have := HB3'.out.size; have := HB4.out.size; omega) (fun e => HNF.out w.heap.size (HV3.out.Ag w.heap.size e.symm).2.2 rfl)).trans ((HB4.out.block w.heap.size (by have := HKW.out; have := HB3'.out.size; omega)).trans (HB3'.out.block w.heap.size HKW.out)))
          have HV0 : Hid ((w5.setCell ⟨g, 0, none⟩ (.slice A5 (es.length + 1) c5)).cell? ⟨g, 0, none⟩ = some (.slice A5 (es.length + 1) c5)) := hid (by simpa using ((HV3.out.blk.keep eg5).store 0 (.slice A5 (es.length + 1) c5)).cell 0)
          clear ho5 hg5 hA5 eg5
          rw [HNN.out] at *
          refine hK.out _ _ HKB.out (fun HS => ?_)
          clear hK K
          try simp only [Act.put, List.setIfInBounds_toArray, List.set_cons_zero, List.set_cons_succ]
          refine wpAnyH_take (i := 12) (oi := ?oipead12) (v := ?vpead12) ?hipead12 (by kernel_rfl) (by kernel_rfl) (by kernel_rfl) ?hQpead12 ?hypead12 HS ?restpead12
          case hipead12 => simp only [List.getElem?_toArray, List.getElem?_cons_succ, List.getElem?_cons_zero]; exact rfl
          case hQpead12 => exact fun _ _ _ h => h
          case hypead12 =>
            refine Or.inl ⟨by rfl, ?_⟩
            intro wS hSw
            go_simp
            try with_reducible rfl
          try simp only [Act.put, List.setIfInBounds_toArray, List.set_cons_zero, List.set_cons_succ]
          refine wpAnyH_take (i := 13) (oi := ?oipead13) (v := ?vpead13) ?hipead13 (by kernel_rfl) (by kernel_rfl) (by kernel_rfl) ?hQpead13 ?hypead13 HS ?restpead13
          case hipead13 => simp only [List.getElem?_toArray, List.getElem?_cons_succ, List.getElem?_cons_zero]; exact rfl
          case hQpead13 => exact fun _ _ _ h => h
          case hypead13 =>
            refine Or.inl ⟨by rfl, ?_⟩
            intro wS hSw
            go_simp
            try with_reducible rfl
          try simp only [Act.put, List.setIfInBounds_toArray, List.set_cons_zero, List.set_cons_succ]
          refine wpAnyH_ready (rs := [14]) (by kernel_rfl) (by simp) ?_
          refine AllReadyH.cons (o := ?opead14) ?hopead14 (fun K hK => ?steppead14) AllReadyH.nil
          case hopead14 => simp only [List.getElem?_toArray, List.getElem?_cons_succ, List.getElem?_cons_zero]; exact rfl
          go_simp
          refine hK.out _ _ ((Below.heap_setCell w5 ⟨g, 0, none⟩ _ w.heap.size (fun e => by have e' : w.heap.size = g := e; have := HGW.out; omega)).trans HKB.out) (fun HS => ?_)
          clear hK K
          try simp only [Act.put]
          refine wpAnyH_done (by kernel_rfl) ?_ _
          clear HS HKB u0 f5
          have v0 := HV0.out
          go_wp2
          go_ret2
          exact ⟨rfl, VLeft.after HB3.out HL5.out⟩
        case steppe10 =>
          rw [if_pos (by rfl)]
          obtain ⟨ie, hie, hz0, hz1, hz2⟩ := info_parts Try.infoSe
          refine wp_buildSlice 59 65 1 _ rfl #[.int .i64 k.t, .int .i64 k.c, .int .i64 k.e, .string (str b), .slice A3 l.length c3] ie _ Try.underlying59 hie hz0 (by rw [hz1]; decide) (by rw [hz1]; decide) (by rw [hz1]; simp only [List.map_toArray, List.map_cons, List.map_nil]; exact filled_seal k (str b) A3 l.length c3) ?_
          have HB4 : Hid (Below w3.heap.size w3 (w3.alloc (.cells #[.int .i64 k.t, .int .i64 k.c, .int .i64 k.e, .string (str b), .slice A3 l.length c3] 65))) := hid ((Below.refl _ _).alloc (Nat.le_refl _) _)
          have HN4 : Hid ((w3.alloc (.cells #[.int .i64 k.t, .int .i64 k.c, .int .i64 k.e, .string (str b), .slice A3 l.length c3] 65)).rangeAt w3.heap.size 0 (⟨k, b, l, A3, c3⟩ : Ep).cells) := hid (fun j v hv => by
            have := (Blk.new w3 65 #[.int .i64 k.t, .int .i64 k.c, .int .i64 k.e, .string (str b), .slice A3 l.length c3]).cell (0 + j)
            rw [this, Nat.zero_add, List.getElem?_toArray]
            exact hv)
          generalize hw4 : w3.alloc (.cells #[.int .i64 k.t, .int .i64 k.c, .int .i64 k.e, .string (str b), .slice A3 l.length c3] 65) = w4 at *
          clear hw4
          refine hK.out _ _ ((HB4.out.block w.heap.size (by have := HKW.out; have := HB3'.out.size; omega)).trans (HB3'.out.block w.heap.size HKW.out)) (fun HS => ?_)
          clear hK K
          try simp only [Act.put, List.setIfInBounds_toArray, List.set_cons_zero, List.set_cons_succ]
          refine wpAnyH_ready (rs := [4]) (by kernel_rfl) (by simp) ?_
          refine AllReadyH.cons (o := ?opeb4) ?hopeb4 (fun K hK => ?steppeb4) AllReadyH.nil
          case hopeb4 => simp only [List.getElem?_toArray, List.getElem?_cons_succ, List.getElem?_cons_zero]; exact rfl
          rw [if_pos (by rfl)]
          refine wp_load_slice 59 (.tmp 26) rfl 65 Try.underlying59 g 0 rfl _ ((World.cell?_of_block ((HB4.out.block g (by have := HV3.out.blk.lt; have := HB3'.out.size; omega)).trans (HB3'.out.block g HV3.out.blk.lt))).trans yd) ?_
          refine hK.out _ _ ((HB4.out.block w.heap.size (by have := HKW.out; have := HB3'.out.size; omega)).trans (HB3'.out.block w.heap.size HKW.out)) (fun HS => ?_)
          clear hK K
          try simp only [Act.put, List.setIfInBounds_toArray, List.set_cons_zero, List.set_cons_succ]
          refine wpAnyH_ready (rs := [11]) (by kernel_rfl) (by simp) ?_
          refine AllReadyH.cons (o := ?opebc11) ?hopebc11 (fun K hK => ?steppebc11) AllReadyH.nil
          case hopebc11 => simp only [List.getElem?_toArray, List.getElem?_cons_succ, List.getElem?_cons_zero]; exact rfl
          rw [if_pos (by rfl)]
          refine wp_append_z 59 65 _ 5 64 Try.underlying59 Try.infoSe rfl (by decide) (by decide) _ _ rfl A es.length c (ecs es) rfl (own_keep HV3.out.row fun d hd => (HB4.out.block d (by have := own_lt HV3.out.row d hd; have := HB3'.out.size; omega)).trans (HB3'.out.block d (own_lt HV3.out.row d hd))) w3.heap.size rfl (⟨k, b, l, A3, c3⟩ : Ep).cells rfl HN4.out (ep_cell _) HLE.out ?_
          intro A5 c5 w5 ho5 hg5 hA5
          have HL5 := hid (VaAt.sealed HV3.out k b l HLL.out HB3'.out HO3.out HB4.out ho5 hg5 hA5)
          have eg5 : w5.heap[g]? = w2.heap[g]? := (hg5.block g (by have := HV3.out.blk.lt; have := HB3'.out.size; have := HB4.out.size; omega) (fun e => (HV3.out.Ag g e.symm).1 rfl)).trans ((HB4.out.block g (by have := HV3.out.blk.lt; have := HB3'.out.size; omega)).trans (HB3'.out.block g HV3.out.blk.lt))
          have f5 := (HV3.out.blk.keep eg5).frozen 0
          have u0 := (HV3.out.blk.keep eg5).cell 0
          simp only [List.getElem?_toArray, List.getElem?_cons_zero] at u0
          have HKB : Hid (w5.heap[w.heap.size]? = w2.heap[w.heap.size]?) := hid ((hg5.block w.heap.size (by have := HKW.out; have := HB3'.out.size; have := HB4.out.size; omega) (fun e => HNF.out w.heap.size (HV3.out.Ag w.heap.size e.symm).2.2 rfl)).trans ((HB4.out.block w.heap.size (by have := HKW.out; have := HB3'.out.size; omega)).trans (HB3'.out.block w.heap.size HKW.out)))
          have HV0 : Hid ((w5.setCell ⟨g, 0, none⟩ (.slice A5 (es.length + 1) c5)).cell? ⟨g, 0, none⟩ = some (.slice A5 (es.length + 1) c5)) := hid (by simpa using ((HV3.out.blk.keep eg5).store 0 (.slice A5 (es.length + 1) c5)).cell 0)
          clear ho5 hg5 hA5 eg5
          rw [HNN.out] at *
          refine hK.out _ _ HKB.out (fun HS => ?_)
          clear hK K
          try simp only [Act.put, List.setIfInBounds_toArray, List.set_cons_zero, List.set_cons_succ]
          refine wpAnyH_take (i := 12) (oi := ?oipebc12) (v := ?vpebc12) ?hipebc12 (by kernel_rfl) (by kernel_rfl) (by kernel_rfl) ?hQpebc12 ?hypebc12 HS ?restpebc12
          case hipebc12 => simp only [List.getElem?_toArray, List.getElem?_cons_succ, List.getElem?_cons_zero]; exact rfl
          case hQpebc12 => exact fun _ _ _ h => h
          case hypebc12 =>
            refine Or.inl ⟨by rfl, ?_⟩
            intro wS hSw
            go_simp
            try with_reducible rfl
          try simp only [Act.put, List.setIfInBounds_toArray, List.set_cons_zero, List.set_cons_succ]
          refine wpAnyH_take (i := 13) (oi := ?oipebc13) (v := ?vpebc13) ?hipebc13 (by kernel_rfl) (by kernel_rfl) (by kernel_rfl) ?hQpebc13 ?hypebc13 HS ?restpebc13
          case hipebc13 => simp only [List.getElem?_toArray, List.getElem?_cons_succ, List.getElem?_cons_zero]; exact rfl
          case hQpebc13 => exact fun _ _ _ h => h
          case hypebc13 =>
            refine Or.inl ⟨by rfl, ?_⟩
            intro wS hSw
            go_simp
            try with_reducible rfl
          try simp only [Act.put, List.setIfInBounds_toArray, List.set_cons_zero, List.set_cons_succ]
          refine wpAnyH_ready (rs := [14]) (by kernel_rfl) (by simp) ?_
          refine AllReadyH.cons (o := ?opebc14) ?hopebc14 (fun K hK => ?steppebc14) AllReadyH.nil
          case hopebc14 => simp only [List.getElem?_toArray, List.getElem?_cons_succ, List.getElem?_cons_zero]; exact rfl
          go_simp
          refine hK.out _ _ ((Below.heap_setCell w5 ⟨g, 0, none⟩ _ w.heap.size (fun e => by have e' : w.heap.size = g := e; have := HGW.out; omega)).trans HKB.out) (fun HS => ?_)
          clear hK K
          try simp only [Act.put]
          refine wpAnyH_done (by kernel_rfl) ?_ _
          clear HS HKB u0 f5
          have v0 := HV0.out
          go_wp2
          go_ret2
          exact ⟨rfl, VLeft.after HB3.out HL5.out⟩
end Go.Proofs.Ytaailoodhaibiaa
