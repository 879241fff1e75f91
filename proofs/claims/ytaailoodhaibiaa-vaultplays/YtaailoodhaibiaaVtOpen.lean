/- What Open of a vault returns: the bytes that were sealed, in new memory, or an error. -/
import Derived.Test.YtaailoodhaibiaaVtW2
namespace Go.Proofs.Ytaailoodhaibiaa
open Go.RowKit

theorem eq_key (a b : Ky) (wx : World) : (Op.equalIn 10000 32 (.agg #[.int .i64 (a).t, .int .i64 (a).c, .int .i64 (a).e]) (.agg #[.int .i64 (b).t, .int .i64 (b).c, .int .i64 (b).e])).run Try.prog wx = .ok (decide (a = b)) wx := by
  go_simp
  by_cases h1 : a.t = b.t
  · rw [if_pos h1]
    by_cases h2 : a.c = b.c
    · rw [if_pos h2]
      by_cases h3 : a.e = b.e
      · rw [if_pos h3, Ky.ext' h1 h2 h3, decide_eq_true rfl]
      · rw [if_neg h3, decide_eq_false (fun e => h3 (by rw [e]))]
    · rw [if_neg h2, decide_eq_false (fun e => h2 (by rw [e]))]
  · rw [if_neg h1, decide_eq_false (fun e => h1 (by rw [e]))]

theorem open_nil (w : World) (k : Ky) (b : List UInt8) (H : Int) :
    Calls Try.prog 11 #[.pointer none, (.agg #[.int .i64 (k).t, .int .i64 (k).c, .int .i64 (k).e]), .string (str b), .int .u64 H] w fun e w' => e = .returned (.tuple #[.slice none 0 0, .int .i64 1]) ∧ Below w.heap.size w w' := by
  have HB1 : Hid (Below w.heap.size w (w.alloc (.cells #[.int .i64 k.t, .int .i64 k.c, .int .i64 k.e] 32))) := hid ((Below.refl _ _).alloc (Nat.le_refl _) _)
  go_enter Try.func11, Try.ntmps11
  go_wp2
  go_ret2
  exact ⟨rfl, HB1.out⟩

theorem opX_at {es : List Ep} {s : Va} (he : es.map Ep.en = s.L) (k : Ky) (b : List UInt8) (h : Nat) : opX s k b h = if (1 ≤ h ∧ h ≤ es.length) ∧ (epAt es h).k = k ∧ (epAt es h).b = b then some (epAt es h).p else none := by
  unfold opX
  rw [epAt_behind he]
  by_cases h1 : 1 ≤ h ∧ h ≤ es.length
  · rw [if_pos h1]
    show (if (epAt es h).k = k ∧ (epAt es h).b = b then some (epAt es h).p else none) = _
    by_cases h2 : (epAt es h).k = k ∧ (epAt es h).b = b
    · rw [if_pos h2, if_pos ⟨h1, h2⟩]
    · rw [if_neg h2, if_neg (fun e => h2 e.2)]
  · rw [if_neg h1, if_neg (fun e => h1 e.1)]
    rfl

theorem own_lower {w : World} {base base' : Nat} {e : TypeId} {z n : Nat} {v : Value} {xs : List Value} (h : w.ownsRow base' e z v n xs) (hb : base ≤ base') : w.ownsRow base e z v n xs := by
  refine ⟨h.1, ?_⟩
  rcases h.2 with h2 | ⟨g, cap, cur, hv, h3, h4⟩
  · exact .inl h2
  · exact .inr ⟨g, cap, cur, hv, Nat.le_trans hb h3, h4⟩
set_option maxHeartbeats 2000000 in
theorem open_any (w : World) (F : Nat → Prop) (g : Nat) (s : Va) (h : Vlt w F g s) (k : Ky) (hk : k.wf) (b : List UInt8) (H : Int) (hd : Nat) (hH : H = (hd : Int)) (hh : hd < 18446744073709551616) :
    Calls Try.prog 11 #[.pointer (some ⟨g, 0, none⟩), (.agg #[.int .i64 (k).t, .int .i64 (k).c, .int .i64 (k).e]), .string (str b), .int .u64 H] w fun e w' => ∃ A n c, e = .returned (.tuple #[.slice A n c, .int .i64 (opE s k b hd)]) ∧ w'.ownsRow w.heap.size 5 1 (.slice A n c) n (bs (opB s k b hd)) ∧ n ≤ 65536 ∧ Below w.heap.size w w' := by
  obtain ⟨m, A, c, es, h⟩ := h
  have hb1 : Below w.heap.size w (w.alloc (.cells #[.int .i64 k.t, .int .i64 k.c, .int .i64 k.e] 32)) := (Below.refl _ _).alloc (Nat.le_refl _) _
  have hB := Blk.new w 32 #[.int .i64 k.t, .int .i64 k.c, .int .i64 k.e]
  have hs1 : (w.alloc (.cells #[.int .i64 k.t, .int .i64 k.c, .int .i64 k.e] 32)).heap.size = w.heap.size + 1 := by simp
  have hv1 := h.bel hb1
  have hgo := gone_c _ F g s ⟨m, A, c, es, hv1⟩ k hk
  by_cases hG : k ∈ s.G
  · rw [decide_eq_true hG] at hgo
    have HE : Hid (opE s k b hd = 50) := hid (if_pos hG)
    have HO : Hid (opB s k b hd = []) := hid (if_pos hG)
    rw [HE.out, HO.out]
    have HB1 := hid hb1
    have HS1 := hid hs1
    clear h hv1 hB hG hH hh hk hs1 hb1 HE HO
    go_enter Try.func11, Try.ntmps11
    go_wp2_with fail
    refine hgo.mono ?_
    rintro e w2 ⟨rfl, hb2⟩
    have HB2 := hid (HB1.out.trans (hb2.mono HB1.out.size))
    clear hgo hb2
    go_wp2
    go_ret2
    exact ⟨none, 0, 0, rfl, own_nilrow _ _ _ _, by omega, HB2.out⟩
  · rw [decide_eq_false hG] at hgo
    have HE : Hid (opE s k b hd = if (opX s k b hd).isSome then 0 else 51) := hid (if_neg hG)
    have HO : Hid (opB s k b hd = (opX s k b hd).getD []) := hid (if_neg hG)
    have HXX := hid (opX_at h.ens k b hd)
    have HB1 := hid hb1
    have HV := hid hv1
    have HS1 := hid hs1
    have HBK := hid hB
    have HX : Hid (∀ wx, Below w.heap.size w wx → Bts wx 0 wx.heap.size (epAt es hd).A (epAt es hd).p.length (epAt es hd).p ∧ (epAt es hd).p.length ≤ 65536) := hid (fun wx hx => by
      by_cases hin : 1 ≤ hd ∧ hd ≤ es.length
      · obtain ⟨j, rfl⟩ : ∃ j, hd = j + 1 := ⟨hd - 1, by omega⟩
        rw [epAt_yes (by omega)]
        have := (h.bel hx).bts es[j] (List.getElem_mem _)
        exact ⟨this.1, this.2.1⟩
      · rw [epAt_no hin]
        exact ⟨Bts.nil _ _ _ _, by decide⟩)
    have HH : Hid (H = (hd : Int)) := hid hH
    have HH2 := hid hh
    clear h hG hH hh hk hs1 hb1 hv1 hB
    go_enter Try.func11, Try.ntmps11
    go_wp2_with fail
    refine hgo.mono ?_
    rintro e w2 ⟨rfl, hb2⟩
    have hbe := behind_c w2 F g s m A c es (HV.out.bel hb2) H hd HH.out HH2.out
    have HB2 := hid (HB1.out.trans (hb2.mono HB1.out.size))
    have HK2 := hid (HBK.out.keep (hb2.block w.heap.size (by have := HS1.out; omega)))
    clear hgo hb2 HV HBK HH HH2 HB1 HS1
    go_wp2_with fail
    refine hbe.mono ?_
    rintro e w3 ⟨rfl, hb3⟩
    have hb4 : Below w2.heap.size w2 (w3.alloc (.cells #[.int .i64 (epAt es hd).k.t, .int .i64 (epAt es hd).k.c, .int .i64 (epAt es hd).k.e, .string (str (epAt es hd).b), .slice (epAt es hd).A (epAt es hd).p.length (epAt es hd).c] 65)) := hb3.alloc hb3.size _
    have HB4 := hid (HB2.out.trans (hb4.mono HB2.out.size))
    have hK4 := HK2.out.keep (hb4.block w.heap.size HK2.out.lt)
    obtain ⟨hX4, hX5⟩ := HX.out _ HB4.out
    have HX4 := hid hX4
    have HX5 := hid hX5
    have c0 := hK4.cell 0
    have c1 := hK4.cell 1
    have c2 := hK4.cell 2
    simp only [List.getElem?_toArray, List.getElem?_cons_zero, List.getElem?_cons_succ] at c0 c1 c2
    have heq := eq_key (epAt es hd).k k
    clear hbe HB2 HK2 hb3 hb4 hK4 hX4 hX5 HX
    generalize epAt es hd = x at *
    by_cases hin : 1 ≤ hd ∧ hd ≤ es.length
    · by_cases hkk : x.k = k
      · by_cases hbb : x.b = b
        · have ho := own_c x.A x.p.length x.c x.p _ HX4.out HX5.out
          have HR : Hid (opX s k b hd = some x.p) := hid (HXX.out.trans (if_pos ⟨hin, hkk, hbb⟩))
          rw [decide_eq_true hin]
          rw [decide_eq_true hkk] at heq
          have hbs : ((str x.b).toList == (str b).toList) = true := by rw [hbb]; simp
          clear hin hkk hbb
          go_wp2_with fail
          refine ho.mono ?_
          rintro e w5 ⟨A5, c5, rfl, ho5, hb5⟩
          have HO5 := hid ho5
          have HB5 := hid hb5
          clear ho ho5 hb5
          go_wp2
          go_ret2
          refine ⟨A5, x.p.length, c5, ?_, ?_, HX5.out, HB4.out.trans (HB5.out.mono HB4.out.size)⟩
          · rw [HE.out, HR.out]
            rfl
          rw [HO.out, HR.out]
          exact own_lower HO5.out HB4.out.size
        · have HR : Hid (opX s k b hd = none) := hid (HXX.out.trans (if_neg (fun e => hbb e.2.2)))
          rw [decide_eq_true hin]
          rw [decide_eq_true hkk] at heq
          have hbs := str_ne hbb
          clear hin hkk hbb
          go_wp2
          go_ret2
          exact ⟨none, 0, 0, by rw [HE.out, HR.out]; rfl, by rw [HO.out, HR.out]; exact own_nilrow _ _ _ _, by omega, HB4.out⟩
      · have HR : Hid (opX s k b hd = none) := hid (HXX.out.trans (if_neg (fun e => hkk e.2.1)))
        rw [decide_eq_true hin]
        rw [decide_eq_false hkk] at heq
        clear hin hkk
        go_wp2
        go_ret2
        exact ⟨none, 0, 0, by rw [HE.out, HR.out]; rfl, by rw [HO.out, HR.out]; exact own_nilrow _ _ _ _, by omega, HB4.out⟩
    · have HR : Hid (opX s k b hd = none) := hid (HXX.out.trans (if_neg (fun e => hin e.1)))
      rw [decide_eq_false hin]
      clear hin
      go_wp2
      go_ret2
      exact ⟨none, 0, 0, by rw [HE.out, HR.out]; rfl, by rw [HO.out, HR.out]; exact own_nilrow _ _ _ _, by omega, HB4.out⟩
end Go.Proofs.Ytaailoodhaibiaa
