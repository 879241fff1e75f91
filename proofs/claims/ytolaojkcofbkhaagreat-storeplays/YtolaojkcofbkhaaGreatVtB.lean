import Derived.Test.YtolaojkcofbkhaaGreatVtA
namespace Go.Proofs.YtolaojkcofbkhaaGreat
set_option maxRecDepth 100000
set_option maxHeartbeats 4000000
open Go.RowKit
theorem eq_key (a b : Ky) (wx : World) : (Op.equalIn 10000 54 (.agg #[.int .i64 (a).t, .int .i64 (a).c, .int .i64 (a).e]) (.agg #[.int .i64 (b).t, .int .i64 (b).c, .int .i64 (b).e])).run Tryz.prog wx = .ok (decide (a = b)) wx := by
 go_simp
 by_cases h1 : a.t = b.t
 · rw [if_pos h1]
   by_cases h2 : a.c = b.c
   · rw [if_pos h2]
     by_cases h3 : a.e = b.e
     · rw [if_pos h3, Ky.ext' h1 h2 h3, decide_eq_true rfl]
     · rw [if_neg h3, decide_eq_false (fun e => h3 (by rw [e]))]
   · rw [if_neg h2, decide_eq_false (fun e => h2 (by rw [e]))]
 · rw [if_neg h1, decide_eq_false (fun e => h1 (by rw [e]))]
theorem opX_at {es : List Ep} {s : Va} (he : es.map Ep.en = s.L) (k : Ky) (b : List UInt8) (h : Nat) : opX s k b h = if (1 ≤ h ∧ h ≤ es.length) ∧ (epAt es h).k = k ∧ (epAt es h).b = b then some (epAt es h).p else none := by
 unfold opX
 rw [epAt_behind he]
 by_cases h1 : 1 ≤ h ∧ h ≤ es.length
 · rw [if_pos h1]
   show (if (epAt es h).k = k ∧ (epAt es h).b = b then some (epAt es h).p else none) = _
   by_cases h2 : (epAt es h).k = k ∧ (epAt es h).b = b
   · rw [if_pos h2, if_pos ⟨h1, h2⟩]
   · rw [if_neg h2, if_neg (fun e => h2 e.2)]
 · rw [if_neg h1, if_neg (fun e => h1 e.1)]
   rfl
theorem open_any (w : World) (F : Nat → Prop) (g : Nat) (s : Va) (h : Vlt w F g s) (k : Ky) (hk : k.wf) (b : List UInt8) (H : Int) (hd : Nat) (hH : H = (hd : Int)) (hh : hd < 18446744073709551616) :
 Calls Tryz.prog 94 #[.pointer (some ⟨g, 0, none⟩), (.agg #[.int .i64 (k).t, .int .i64 (k).c, .int .i64 (k).e]), .string (str b), .int .u64 H] w fun e w' => ∃ A n c, e = .returned (.tuple #[.slice A n c, .int .i64 (opE s k b hd)]) ∧ w'.ownsRow w.heap.size 5 1 (.slice A n c) n (bs (opB s k b hd)) ∧ n ≤ 65536 ∧ Below w.heap.size w w' := by
 obtain ⟨m, A, c, es, h⟩ := h
 have hb1 : Below w.heap.size w (w.alloc (.cells #[.int .i64 k.t, .int .i64 k.c, .int .i64 k.e] 54)) := (Below.refl _ _).alloc (nl _) _
 have hB := Blk.new w 54 #[.int .i64 k.t, .int .i64 k.c, .int .i64 k.e]
 have hs1 : (w.alloc (.cells #[.int .i64 k.t, .int .i64 k.c, .int .i64 k.e] 54)).heap.size = w.heap.size + 1 := by simp
 have hv1 := h.bel hb1
 have hgo := gone_c _ F g s ⟨m, A, c, es, hv1⟩ k hk
 by_cases hG : k ∈ s.G
 · rw [decide_eq_true hG] at hgo
   have HE : Hid (opE s k b hd = 50) := hid (if_pos hG)
   have HO : Hid (opB s k b hd = []) := hid (if_pos hG)
   rw [HE.out, HO.out]
   have HB1 := hid hb1
   have HS1 := hid hs1
   clear h hv1 hB hG hH hh hk hs1 hb1 HE HO
   go_enter Tryz.func94, Tryz.ntmps94
   go_wp2_with fail
   refine hgo.mono ?_
   rintro e w2 ⟨rfl, hb2⟩
   have HB2 := hid (HB1.out.trans (hb2.mono HB1.out.size))
   clear hgo hb2
   go_wp2
   go_ret2
   exact ⟨none, 0, 0, rfl, own_nilrow _ _ _ _, by omega, HB2.out⟩
 · rw [decide_eq_false hG] at hgo
   have HE : Hid (opE s k b hd = if (opX s k b hd).isSome then 0 else 51) := hid (if_neg hG)
   have HO : Hid (opB s k b hd = (opX s k b hd).getD []) := hid (if_neg hG)
   have HXX := hid (opX_at h.ens k b hd)
   have HB1 := hid hb1
   have HV := hid hv1
   have HS1 := hid hs1
   have HBK := hid hB
   have HX : Hid (∀ wx, Below w.heap.size w wx → Bts wx 0 wx.heap.size (epAt es hd).A (epAt es hd).p.length (epAt es hd).p ∧ (epAt es hd).p.length ≤ 65536) := hid (fun wx hx => by
    by_cases hin : 1 ≤ hd ∧ hd ≤ es.length
    · obtain ⟨j, rfl⟩ : ∃ j, hd = j + 1 := ⟨hd - 1, by omega⟩
      rw [epAt_yes (by omega)]
      have := (h.bel hx).bts es[j] (List.getElem_mem _)
      exact ⟨this.1, this.2.1⟩
    · rw [epAt_no hin]
      exact ⟨Bts.nil _ _ _ _, by decide⟩)
   have HH : Hid (H = (hd : Int)) := hid hH
   have HH2 := hid hh
   clear h hG hH hh hk hs1 hb1 hv1 hB
   go_enter Tryz.func94, Tryz.ntmps94
   go_wp2_with fail
   refine hgo.mono ?_
   rintro e w2 ⟨rfl, hb2⟩
   have hbe := behind_c w2 F g s m A c es (HV.out.bel hb2) H hd HH.out HH2.out
   have HB2 := hid (HB1.out.trans (hb2.mono HB1.out.size))
   have HK2 := hid (HBK.out.keep (hb2.block w.heap.size (by have := HS1.out; omega)))
   clear hgo hb2 HV HBK HH HH2 HB1 HS1
   go_wp2_with fail
   refine hbe.mono ?_
   rintro e w3 ⟨rfl, hb3⟩
   have hb4 : Below w2.heap.size w2 (w3.alloc (.cells #[.int .i64 (epAt es hd).k.t, .int .i64 (epAt es hd).k.c, .int .i64 (epAt es hd).k.e, .string (str (epAt es hd).b), .slice (epAt es hd).A (epAt es hd).p.length (epAt es hd).c] 150)) := hb3.alloc hb3.size _
   have HB4 := hid (HB2.out.trans (hb4.mono HB2.out.size))
   have hK4 := HK2.out.keep (hb4.block w.heap.size HK2.out.lt)
   obtain ⟨hX4, hX5⟩ := HX.out _ HB4.out
   have HX4 := hid hX4
   have HX5 := hid hX5
   have c0 := hK4.cell 0
   have c1 := hK4.cell 1
   have c2 := hK4.cell 2
   simp only [zD, zF, zE] at c0 c1 c2
   have heq := eq_key (epAt es hd).k k
   clear hbe HB2 HK2 hb3 hb4 hK4 hX4 hX5 HX
   generalize epAt es hd = x at *
   by_cases hin : 1 ≤ hd ∧ hd ≤ es.length
   · by_cases hkk : x.k = k
     · by_cases hbb : x.b = b
       · have ho := own_c x.A x.p.length x.c x.p _ HX4.out HX5.out
         have HR : Hid (opX s k b hd = some x.p) := hid (HXX.out.trans (if_pos ⟨hin, hkk, hbb⟩))
         rw [decide_eq_true hin]
         rw [decide_eq_true hkk] at heq
         have hbs : ((str x.b).toList == (str b).toList) = true := by rw [hbb]; simp
         clear hin hkk hbb
         go_wp2_with fail
         refine ho.mono ?_
         rintro e w5 ⟨A5, c5, rfl, ho5, hb5⟩
         have HO5 := hid ho5
         have HB5 := hid hb5
         clear ho ho5 hb5
         go_wp2
         go_ret2
         refine ⟨A5, x.p.length, c5, ?_, ?_, HX5.out, HB4.out.trans (HB5.out.mono HB4.out.size)⟩
         · rw [HE.out, HR.out]
           rfl
         rw [HO.out, HR.out]
         exact own_lower HO5.out HB4.out.size
       · have HR : Hid (opX s k b hd = none) := hid (HXX.out.trans (if_neg (fun e => hbb e.2.2)))
         rw [decide_eq_true hin]
         rw [decide_eq_true hkk] at heq
         have hbs := str_ne hbb
         clear hin hkk hbb
         go_wp2
         go_ret2
         exact ⟨none, 0, 0, by rw [HE.out, HR.out]; rfl, by rw [HO.out, HR.out]; exact own_nilrow _ _ _ _, by omega, HB4.out⟩
     · have HR : Hid (opX s k b hd = none) := hid (HXX.out.trans (if_neg (fun e => hkk e.2.1)))
       rw [decide_eq_true hin]
       rw [decide_eq_false hkk] at heq
       clear hin hkk
       go_wp2
       go_ret2
       exact ⟨none, 0, 0, by rw [HE.out, HR.out]; rfl, by rw [HO.out, HR.out]; exact own_nilrow _ _ _ _, by omega, HB4.out⟩
   · have HR : Hid (opX s k b hd = none) := hid (HXX.out.trans (if_neg (fun e => hin e.1)))
     rw [decide_eq_false hin]
     clear hin
     go_wp2
     go_ret2
     exact ⟨none, 0, 0, by rw [HE.out, HR.out]; rfl, by rw [HO.out, HR.out]; exact own_nilrow _ _ _ _, by omega, HB4.out⟩
theorem VaAt.sealed {w w3 w4 w5 : World} {F : Nat → Prop} {g : Nat} {s : Va} {m : Nat} {A : Option Addr} {c : Nat} {es : List Ep} (h : VaAt w F g s m A c es) (k : Ky) (b l : List UInt8) {A3 : Option Addr} {c3 : Nat} (hl : l.length ≤ 65536) (hb3 : Below w.heap.size w w3)
 (ho3 : w3.ownsRow w.heap.size 5 1 (.slice A3 l.length c3) l.length (bs l)) (hb4 : Below w3.heap.size w3 w4) {A5 : Option Addr} {c5 : Nat}
 (ho5 : w5.ownsRow 0 150 5 (.slice A5 (es.length + 1) c5) (es.length + 1) (ecs es ++ (⟨k, b, l, A3, c3⟩ : Ep).cells)) (hg5 : w4.grownBy w5 (A.map (·.block))) (hA5 : ∀ d, A5.map (·.block) = some d → A.map (·.block) = some d ∨ d = w4.heap.size) :
 VLeft w (w5.setCell ⟨g, 0, none⟩ (.slice A5 (es.length + 1) c5)) F g ⟨s.L ++ [⟨k, b, l⟩], s.G⟩ := by
 have hg6 := grown_setCell w5 g 0 (.slice A5 (es.length + 1) c5)
 have s3 := hb3.size
 have s4 := hb4.size
 have s5 := hg5.size
 have s6 := hg6.size
 have lt := h.F
 have lg := lt g h.Fg
 have lm := lt m h.Fm
 have kF : ∀ j, j < w.heap.size → A.map (·.block) ≠ some j → w5.heap[j]? = w.heap[j]? := fun j hj hne => (hg5.block j (by omega) (fun e => hne e.symm)).trans ((hb4.block j (by omega)).trans (hb3.block j hj))
 have k6 : ∀ j, j < w5.heap.size → j ≠ g → (w5.setCell ⟨g, 0, none⟩ (.slice A5 (es.length + 1) c5)).heap[j]? = w5.heap[j]? := fun j hj hne => hg6.block j hj (fun e => hne (by injection e))
 have A1 : ∀ d, A5.map (·.block) = some d → d ≠ g ∧ d ≠ m ∧ (F d ∨ w.heap.size ≤ d) := fun d hd => by
  rcases hA5 d hd with e | e
  · exact ⟨(h.Ag d e).1, (h.Ag d e).2.1, .inl (h.Ag d e).2.2⟩
  · exact ⟨by omega, by omega, .inr (by omega)⟩
 have Ang : ∀ j, F j → j = g ∨ j = m → A.map (·.block) ≠ some j := fun j _ hj e => by rcases hj with rfl | rfl; exact (h.Ag _ e).1 rfl; exact (h.Ag _ e).2.1 rfl
 refine ⟨fun j => (F j ∨ w.heap.size ≤ j) ∧ j < w5.heap.size, ⟨m, A5, c5, es ++ [⟨k, b, l, A3, c3⟩], ?_, ?_, ?_, ?_, ?_, h.gm, fun d hd => ?_, ⟨.inl h.Fg, by omega⟩, ⟨.inl h.Fm, by omega⟩, fun j hj => by have := hj.2; omega⟩, ?_, fun j hj => hj.1⟩
 · rw [List.length_append]
   exact (h.blk.keep (kF g lg (Ang g h.Fg (.inl rfl)))).store 0 (.slice A5 (es.length + 1) c5)
 · rw [List.length_append, ecs_app, ecs_one]
   exact own_keep ho5 fun d hd => k6 d (own_lt ho5 d hd) (A1 d hd).1
 · rw [List.map_append, h.ens]
   rfl
 · intro x hx
   rcases List.mem_append.1 hx with hx | hx
   · obtain ⟨x1, x2, x3⟩ := h.bts x hx
     refine ⟨x1.at1 (by omega) fun u hu => ?_, x2, fun u hu => ?_⟩
     · obtain ⟨y1, y2, y3, y4⟩ := x3 u hu
       have := lt u y1
       exact (k6 u (by omega) y2).trans (kF u this y4)
     · obtain ⟨y1, y2, y3, y4⟩ := x3 u hu
       have := lt u y1
       exact ⟨⟨.inl y1, by omega⟩, y2, y3, fun e => by rcases hA5 u e with e | e; exact y4 e; omega⟩
   · rw [List.mem_singleton] at hx
     subst hx
     have hBt := Bts.own ho3
     refine ⟨(hBt.wide (Nat.zero_le _) (nl _)).at1 (by omega) fun u hu => ?_, hl, fun u hu => ?_⟩
     · have u1 := own_ge ho3 u hu
       have u2 := own_lt ho3 u hu
       exact (k6 u (by omega) (by omega)).trans ((hg5.block u (by omega) (fun e => by have := lt u (h.Ag u e.symm).2.2; omega)).trans (hb4.block u u2))
     · have u1 := own_ge ho3 u hu
       have u2 := own_lt ho3 u hu
       exact ⟨⟨.inr u1, by omega⟩, by omega, by omega, fun e => by
        rcases hA5 u e with e | e
        · have := lt u (h.Ag u e).2.2; omega
        · omega⟩
 · obtain ⟨n, D, h1, h2⟩ := h.map
   exact ⟨n, D, ownsMap_keep h1 ((k6 m (by omega) (Ne.symm h.gm)).trans (kF m lm (Ang m h.Fm (.inr rfl)))), h2⟩
 · exact ⟨(A1 d hd).1, (A1 d hd).2.1, (A1 d hd).2.2, own_lt ho5 d hd⟩
 · exact ⟨hg6.os.trans (hg5.os.trans (hb4.os.trans hb3.os)), hg6.tape.trans (hg5.tape.trans (hb4.tape.trans hb3.tape)), hg6.output.trans (hg5.output.trans (hb4.output.trans hb3.output)), by omega, fun j hj hF =>
    (k6 j (by omega) (fun e => hF (e ▸ h.Fg))).trans (kF j hj fun e => hF (h.Ag j e).2.2)⟩
theorem built_seal (k : Ky) (s : ByteArray) (A : Option Addr) (n c : Nat) : Tryz.prog.built 150 [(0, (.agg #[.int .i64 (k).t, .int .i64 (k).c, .int .i64 (k).e])), (1, .string s), (2, .slice A n c)] = some #[.int .i64 k.t, .int .i64 k.c, .int .i64 k.e, .string s, .slice A n c] := by kernel_rfl
theorem filled_seal (k : Ky) (s : ByteArray) (A : Option Addr) (n c : Nat) : Instr.fill (fun j => some (j * 5, 5)) ((Array.range (1 * 5)).map ((#[.int .i64 0, .int .i64 0, .int .i64 0, .string ⟨#[]⟩, .slice none 0 0] : Array Value)[· % 5]!)) [(0, .agg #[.int .i64 k.t, .int .i64 k.c, .int .i64 k.e, .string s, .slice A n c])] = some #[.int .i64 k.t, .int .i64 k.c, .int .i64 k.e, .string s, .slice A n c] := by kernel_rfl
theorem seal_any (w : World) (F : Nat → Prop) (g : Nat) (s : Va) (h : Vlt w F g s) (k : Ky) (hk : k.wf) (b : List UInt8) (PA : Option Addr) (n pc : Nat) (l : List UInt8) (hp : Bts w 0 w.heap.size PA n l) (hL : s.L.length ≤ 1000000) :
 Calls Tryz.prog 126 #[.pointer (some ⟨g, 0, none⟩), (.agg #[.int .i64 (k).t, .int .i64 (k).c, .int .i64 (k).e]), .string (str b), .slice PA n pc] w fun e w' => e = .returned (.tuple #[.int .u64 (seH s k l.length : Int), .int .i64 (seE s k l.length)]) ∧ VLeft w w' F g (seS s k b l) := by
 obtain rfl := hp.len
 obtain ⟨m, A, c, es, h⟩ := h
 have hb1 : Below w.heap.size w (w.alloc (.cells #[.int .i64 k.t, .int .i64 k.c, .int .i64 k.e] 54)) := (Below.refl _ _).alloc (nl _) _
 have hB := Blk.new w 54 #[.int .i64 k.t, .int .i64 k.c, .int .i64 k.e]
 have hs1 : (w.alloc (.cells #[.int .i64 k.t, .int .i64 k.c, .int .i64 k.e] 54)).heap.size = w.heap.size + 1 := by simp
 have hri := right_c k (w.alloc (.cells #[.int .i64 k.t, .int .i64 k.c, .int .i64 k.e] 54))
 have HB1 := hid hb1
 have HV := hid h
 have HS1 := hid hs1
 have HBK := hid hB
 have HK := hid hk
 have HP := hid hp
 have HL := hid hL
 by_cases hbad : ¬ k.right ∨ 65536 < l.length
 · have HE : Hid (seE s k l.length = 2) := hid (if_pos hbad)
   have HH : Hid (seH s k l.length = 0) := hid (if_pos hbad)
   have HS : Hid (seS s k b l = s) := hid (if_pos hbad)
   rw [HE.out, HH.out, HS.out]
   clear h hk hp hL hb1 hs1 hB HE HH HS HL HK
   go_enter Tryz.func126, Tryz.ntmps126
   by_cases hr : k.right
   · rw [decide_eq_true hr] at hri
     have e1 : decide ((65536 : Int) < (l.length : Int)) = true := by simp; rcases hbad with hb | hb; exact absurd hr hb; omega
     clear hbad hr
     go_wp2_with fail
     refine hri.mono ?_
     rintro e w2 ⟨rfl, hb2⟩
     have HB2 := hid (HB1.out.trans (hb2.mono HB1.out.size))
     clear hri hb2
     go_wp2
     go_ret2
     exact ⟨rfl, VLeft.same ⟨m, A, c, es, HV.out⟩ HB2.out⟩
   · rw [decide_eq_false hr] at hri
     clear hbad hr
     go_wp2_with fail
     refine hri.mono ?_
     rintro e w2 ⟨rfl, hb2⟩
     have HB2 := hid (HB1.out.trans (hb2.mono HB1.out.size))
     clear hri hb2
     go_wp2
     go_ret2
     exact ⟨rfl, VLeft.same ⟨m, A, c, es, HV.out⟩ HB2.out⟩
 · have hr : k.right := Classical.byContradiction fun e => hbad (.inl e)
   have hl : l.length ≤ 65536 := by omega
   have e1 : decide ((65536 : Int) < (l.length : Int)) = false := by simp; omega
   have HLL := hid hl
   rw [decide_eq_true hr] at hri
   have HK2 : Hid (∀ w2, Below (w.heap.size + 1) (w.alloc (.cells #[.int .i64 k.t, .int .i64 k.c, .int .i64 k.e] 54)) w2 → Blk w2 w.heap.size 54 #[.int .i64 k.t, .int .i64 k.c, .int .i64 k.e]) := hid (fun w2 hb2 => hB.keep (hb2.block w.heap.size (by omega)))
   by_cases hG : k ∈ s.G
   · have HE : Hid (seE s k l.length = 50) := hid ((if_neg hbad).trans (if_pos hG))
     have HH : Hid (seH s k l.length = 0) := hid ((if_neg hbad).trans (if_pos hG))
     have HS : Hid (seS s k b l = s) := hid ((if_neg hbad).trans (if_pos hG))
     rw [HE.out, HH.out, HS.out]
     have HGG : Hid (decide (k ∈ s.G) = true) := hid (decide_eq_true hG)
     clear h hk hp hL hb1 hs1 hB HE HH HS HL hG hbad hr hl
     go_enter Tryz.func126, Tryz.ntmps126
     go_wp2_with fail
     refine hri.mono ?_
     rintro e w2 ⟨rfl, hb2⟩
     have hgo := gone_c w2 F g s ⟨m, A, c, es, (HV.out.bel HB1.out).bel hb2⟩ k HK.out
     rw [HGG.out] at hgo
     have hK2 := HK2.out w2 (by rw [← HS1.out]; exact hb2)
     have c0 := hK2.cell 0
     have c1 := hK2.cell 1
     have c2 := hK2.cell 2
     simp only [zD, zF, zE] at c0 c1 c2
     have HB2 := hid (HB1.out.trans (hb2.mono HB1.out.size))
     clear hri hb2 hK2 HK2
     go_wp2_with fail
     refine hgo.mono ?_
     rintro e w3 ⟨rfl, hb3⟩
     have HB3 := hid (HB2.out.trans (hb3.mono HB2.out.size))
     clear hgo hb3 c0 c1 c2
     go_wp2
     go_ret2
     exact ⟨rfl, VLeft.same ⟨m, A, c, es, HV.out⟩ HB3.out⟩
   · have HE : Hid (seE s k l.length = 0) := hid ((if_neg hbad).trans (if_neg hG))
     have HH : Hid (seH s k l.length = es.length + 1) := hid (((if_neg hbad).trans (if_neg hG)).trans (by rw [h.len]))
     have HS : Hid (seS s k b l = ⟨s.L ++ [⟨k, b, l⟩], s.G⟩) := hid ((if_neg hbad).trans (if_neg hG))
     rw [HE.out, HH.out, HS.out]
     have HGG : Hid (decide (k ∈ s.G) = false) := hid (decide_eq_false hG)
     have HLE : Hid (es.length ≤ 1000000) := hid (by rw [h.len]; exact hL)
     have hgw := h.F g h.Fg
     have HGW := hid hgw
     have HVF := hid h.F
     have wu : IntKind.u64.wrap ((es.length + 1 : Nat) : Int) = ((es.length + 1 : Nat) : Int) := wrapu (by omega) (by have := HLE.out; omega)
     clear h hk hp hL hb1 hs1 hB HE HH HS HL hG hbad hr hl hgw
     generalize hNN : es.length + 1 = NN at *
     have HNN := hid hNN
     clear hNN
     go_enter Tryz.func126, Tryz.ntmps126
     go_wp2_with fail
     refine hri.mono ?_
     rintro e w1 ⟨rfl, hb2⟩
     have hgo := gone_c w1 F g s ⟨m, A, c, es, (HV.out.bel HB1.out).bel hb2⟩ k HK.out
     rw [HGG.out] at hgo
     have hK2 := HK2.out w1 (by rw [← HS1.out]; exact hb2)
     have HKK := hid hK2
     have c0 := hK2.cell 0
     have c1 := hK2.cell 1
     have c2 := hK2.cell 2
     simp only [zD, zF, zE] at c0 c1 c2
     have HB2 := hid (HB1.out.trans (hb2.mono HB1.out.size))
     clear hri hb2 hK2 HK2 HB1 HBK HS1
     go_wp2_with fail
     refine hgo.mono ?_
     rintro e w2 ⟨rfl, hb3⟩
     have HB3 := hid (HB2.out.trans (hb3.mono HB2.out.size))
     have HV3 := hid (HV.out.bel HB3.out)
     have HK3 := hid (HKK.out.keep (hb3.block w.heap.size HKK.out.lt))
     have HP3 := hid ((HP.out.below HB3.out (nl _)).wide (nl _) HB3.out.size)
     have HNF : Hid (∀ j, F j → j ≠ w.heap.size) := hid (fun j hj e => by have := HVF.out j hj; omega)
     have HKW : Hid (w.heap.size < w2.heap.size) := hid HK3.out.lt
     have yd := HV3.out.cells.1
     clear hgo hb3 c0 c1 c2 HB2 HKK HP HV HGG HK e1 HVF
     go_wp2_with fail
     refine wp_region_held_drew (S := fun wx => wx.heap[w.heap.size]? = w2.heap[w.heap.size]?) (by kernel_rfl) rfl (fun HS => ?_)
     refine qT 0 ?v0 ?y0 HS ?r0
     case y0 => refine qI fun wS hSw => ?_; go_simp; try with_reducible rfl
     try simp only [Act.put, zA]
     refine qT 1 ?v1 ?y1 HS ?r1
     case y1 => refine qI fun wS hSw => ?_; go_simp; try with_reducible rfl
     try simp only [Act.put, zA]
     refine qT 2 ?v2 ?y2 HS ?r2
     case y2 => refine qI fun wS hSw => ?_; go_simp; try with_reducible rfl
     try simp only [Act.put, zA]
     refine qT 3 ?v3 ?y3 HS ?r3
     case y3 => refine qI fun wS hSw => ?_; go_simp; try with_reducible rfl
     try simp only [Act.put, zA]
     refine qT 5 ?v5 ?y5 HS ?r5
     case y5 =>
      refine qI fun wS hSw => ?_
      have hKS := HK3.out.keep hSw
      have c0 := hKS.cell 0
      have c1 := hKS.cell 1
      have c2 := hKS.cell 2
      simp only [zD, zF, zE] at c0 c1 c2
      go_simp
      try with_reducible rfl
     try simp only [Act.put, zA]
     refine qT 6 ?v6 ?y6 HS ?r6
     case y6 => refine qI fun wS hSw => ?_; go_simp; try with_reducible rfl
     try simp only [Act.put, zA]
     refine qT 7 ?v7 ?y7 HS ?r7
     case y7 => refine qI fun wS hSw => ?_; go_simp; try with_reducible rfl
     try simp only [Act.put, zA]
     refine wpAnyH_ready (rs := [4, 8]) (by kernel_rfl) (by simp) ?_
     refine (AllReadyH.cons (o := ?o4) ?ho4 (fun K hK => ?step4) (AllReadyH.cons (o := ?o8) ?ho8 (fun K hK => ?step8) AllReadyH.nil))
     case ho4 => simp only [zD, zE, zF]; exact rfl
     case ho8 => simp only [zD, zE, zF]; exact rfl
     case step4 =>
      rw [if_pos (by rfl)]
      refine wp_load_slice 110 (.tmp 26) rfl 150 Tryz.underlying110 g 0 rfl _ (by simpa using yd) ?_
      refine hK.out _ _ rfl (fun HS => ?_)
      clear hK K
      try simp only [Act.put, zA]
      refine qR 8 fun K hK => ?_
      go_simp
      refine (own_c PA l.length pc l w2.drew (HP3.out.below (Below.refl _ _).drew (nl _)) HLL.out).mono ?_
      rintro e w3 ⟨A3, c3, rfl, ho3, hb3⟩
      have HO3 : Hid (w3.ownsRow w2.heap.size 5 1 (.slice A3 l.length c3) l.length (bs l)) := hid ho3
      have HB3' : Hid (Below w2.heap.size w2 w3) := hid ((Below.refl _ _).drew.trans (hb3.mono (by simp)))
      clear ho3 hb3
      refine hK.out _ _ (HB3'.out.block w.heap.size HKW.out) (fun HS => ?_)
      clear hK K
      try simp only [Act.put, zA]
      refine qT 9 ?vq9 ?yq9 HS ?rq9
      case yq9 =>
       refine qI fun wS hSw => ?_
       refine Eq.trans (exec_build 150 #[(0, .tmp 28), (1, .tmp 29), (2, .tmp 31)] ?_ #[(0, (.agg #[.int .i64 (k).t, .int .i64 (k).c, .int .i64 (k).e])), (1, .string (str b)), (2, .slice A3 l.length c3)] ?_ _ (built_seal k (str b) A3 l.length c3)) ?_
       · rfl
       · simp only [List.map_toArray, List.map_cons, List.map_nil]; rfl
       · with_reducible rfl
      try simp only [Act.put, zA]
      refine qR 10 fun K hK => ?_
      rw [if_pos (by rfl)]
      obtain ⟨ie, hie, hz0, hz1, hz2⟩ := info_parts Tryz.infoSe
      refine wp_buildSlice 110 150 1 _ rfl #[.int .i64 k.t, .int .i64 k.c, .int .i64 k.e, .string (str b), .slice A3 l.length c3] ie _ Tryz.underlying110 hie hz0 (by rw [hz1]; decide) (by rw [hz1]; decide) (by rw [hz1]; simp only [List.map_toArray, List.map_cons, List.map_nil]; exact filled_seal k (str b) A3 l.length c3) ?_
      have HB4 : Hid (Below w3.heap.size w3 (w3.alloc (.cells #[.int .i64 k.t, .int .i64 k.c, .int .i64 k.e, .string (str b), .slice A3 l.length c3] 150))) := hid ((Below.refl _ _).alloc (nl _) _)
      have HN4 : Hid ((w3.alloc (.cells #[.int .i64 k.t, .int .i64 k.c, .int .i64 k.e, .string (str b), .slice A3 l.length c3] 150)).rangeAt w3.heap.size 0 (⟨k, b, l, A3, c3⟩ : Ep).cells) := hid (fun j v hv => by
       have := (Blk.new w3 150 #[.int .i64 k.t, .int .i64 k.c, .int .i64 k.e, .string (str b), .slice A3 l.length c3]).cell (0 + j)
       rw [this, Nat.zero_add, List.getElem?_toArray]
       exact hv)
      generalize hw4 : w3.alloc (.cells #[.int .i64 k.t, .int .i64 k.c, .int .i64 k.e, .string (str b), .slice A3 l.length c3] 150) = w4 at *
      clear hw4
      refine hK.out _ _ ((HB4.out.block w.heap.size (by have := HKW.out; have := HB3'.out.size; omega)).trans (HB3'.out.block w.heap.size HKW.out)) (fun HS => ?_)
      clear hK K
      try simp only [Act.put, zA]
      refine qR 11 fun K hK => ?_
      rw [if_pos (by rfl)]
      refine wp_append_z 110 150 _ 5 64 Tryz.underlying110 Tryz.infoSe rfl (by decide) (by decide) _ _ rfl A es.length c (ecs es) rfl (own_keep HV3.out.row fun d hd => (HB4.out.block d (by have := own_lt HV3.out.row d hd; have := HB3'.out.size; omega)).trans (HB3'.out.block d (own_lt HV3.out.row d hd))) w3.heap.size rfl (⟨k, b, l, A3, c3⟩ : Ep).cells rfl HN4.out (ep_cell _) HLE.out ?_
      intro A5 c5 w5 ho5 hg5 hA5
      have HL5 := hid (VaAt.sealed HV3.out k b l HLL.out HB3'.out HO3.out HB4.out ho5 hg5 hA5)
      have eg5 : w5.heap[g]? = w2.heap[g]? := (hg5.block g (by have := HV3.out.blk.lt; have := HB3'.out.size; have := HB4.out.size; omega) (fun e => (HV3.out.Ag g e.symm).1 rfl)).trans ((HB4.out.block g (by have := HV3.out.blk.lt; have := HB3'.out.size; omega)).trans (HB3'.out.block g HV3.out.blk.lt))
      have f5 := (HV3.out.blk.keep eg5).frozen 0
      have u0 := (HV3.out.blk.keep eg5).cell 0
      simp only [zD, zF] at u0
      have HKB : Hid (w5.heap[w.heap.size]? = w2.heap[w.heap.size]?) := hid ((hg5.block w.heap.size (by have := HKW.out; have := HB3'.out.size; have := HB4.out.size; omega) (fun e => HNF.out w.heap.size (HV3.out.Ag w.heap.size e.symm).2.2 rfl)).trans ((HB4.out.block w.heap.size (by have := HKW.out; have := HB3'.out.size; omega)).trans (HB3'.out.block w.heap.size HKW.out)))
      have HV0 : Hid ((w5.setCell ⟨g, 0, none⟩ (.slice A5 (es.length + 1) c5)).cell? ⟨g, 0, none⟩ = some (.slice A5 (es.length + 1) c5)) := hid (by simpa using ((HV3.out.blk.keep eg5).store 0 (.slice A5 (es.length + 1) c5)).cell 0)
      clear ho5 hg5 hA5 eg5
      rw [HNN.out] at *
      refine hK.out _ _ HKB.out (fun HS => ?_)
      clear hK K
      try simp only [Act.put, zA]
      refine qT 12 ?vqed12 ?yqed12 HS ?rqed12
      case yqed12 => refine qI fun wS hSw => ?_; go_simp; try with_reducible rfl
      try simp only [Act.put, zA]
      refine qT 13 ?vqed13 ?yqed13 HS ?rqed13
      case yqed13 => refine qI fun wS hSw => ?_; go_simp; try with_reducible rfl
      try simp only [Act.put, zA]
      refine qR 14 fun K hK => ?_
      go_simp
      refine hK.out _ _ ((Below.heap_setCell w5 ⟨g, 0, none⟩ _ w.heap.size (fun e => by have e' : w.heap.size = g := e; have := HGW.out; omega)).trans HKB.out) (fun HS => ?_)
      clear hK K
      try simp only [Act.put]
      refine qD ?_
      clear HS HKB u0 f5
      have v0 := HV0.out
      go_wp2
      go_ret2
      exact ⟨rfl, VLeft.after HB3.out HL5.out⟩
     case step8 =>
      go_simp
      refine (own_c PA l.length pc l w2.drew (HP3.out.below (Below.refl _ _).drew (nl _)) HLL.out).mono ?_
      rintro e w3 ⟨A3, c3, rfl, ho3, hb3⟩
      have HO3 : Hid (w3.ownsRow w2.heap.size 5 1 (.slice A3 l.length c3) l.length (bs l)) := hid ho3
      have HB3' : Hid (Below w2.heap.size w2 w3) := hid ((Below.refl _ _).drew.trans (hb3.mono (by simp)))
      clear ho3 hb3
      refine hK.out _ _ (HB3'.out.block w.heap.size HKW.out) (fun HS => ?_)
      clear hK K
      try simp only [Act.put, zA]
      refine qT 9 ?vp9 ?yp9 HS ?rp9
      case yp9 =>
       refine qI fun wS hSw => ?_
       refine Eq.trans (exec_build 150 #[(0, .tmp 28), (1, .tmp 29), (2, .tmp 31)] ?_ #[(0, (.agg #[.int .i64 (k).t, .int .i64 (k).c, .int .i64 (k).e])), (1, .string (str b)), (2, .slice A3 l.length c3)] ?_ _ (built_seal k (str b) A3 l.length c3)) ?_
       · rfl
       · simp only [List.map_toArray, List.map_cons, List.map_nil]; rfl
       · with_reducible rfl
      try simp only [Act.put, zA]
      refine wpAnyH_ready (rs := [4, 10]) (by kernel_rfl) (by simp) ?_
      refine (AllReadyH.cons (o := ?ope4) ?hope4 (fun K hK => ?steppe4) (AllReadyH.cons (o := ?ope10) ?hope10 (fun K hK => ?steppe10) AllReadyH.nil))
      case hope4 => simp only [zD, zE, zF]; exact rfl
      case hope10 => simp only [zD, zE, zF]; exact rfl
      case steppe4 =>
       rw [if_pos (by rfl)]
       refine wp_load_slice 110 (.tmp 26) rfl 150 Tryz.underlying110 g 0 rfl _ ((World.cell?_of_block (HB3'.out.block g HV3.out.blk.lt)).trans yd) ?_
       refine hK.out _ _ (HB3'.out.block w.heap.size HKW.out) (fun HS => ?_)
       clear hK K
       try simp only [Act.put, zA]
       refine qR 10 fun K hK => ?_
       rw [if_pos (by rfl)]
       obtain ⟨ie, hie, hz0, hz1, hz2⟩ := info_parts Tryz.infoSe
       refine wp_buildSlice 110 150 1 _ rfl #[.int .i64 k.t, .int .i64 k.c, .int .i64 k.e, .string (str b), .slice A3 l.length c3] ie _ Tryz.underlying110 hie hz0 (by rw [hz1]; decide) (by rw [hz1]; decide) (by rw [hz1]; simp only [List.map_toArray, List.map_cons, List.map_nil]; exact filled_seal k (str b) A3 l.length c3) ?_
       have HB4 : Hid (Below w3.heap.size w3 (w3.alloc (.cells #[.int .i64 k.t, .int .i64 k.c, .int .i64 k.e, .string (str b), .slice A3 l.length c3] 150))) := hid ((Below.refl _ _).alloc (nl _) _)
       have HN4 : Hid ((w3.alloc (.cells #[.int .i64 k.t, .int .i64 k.c, .int .i64 k.e, .string (str b), .slice A3 l.length c3] 150)).rangeAt w3.heap.size 0 (⟨k, b, l, A3, c3⟩ : Ep).cells) := hid (fun j v hv => by
        have := (Blk.new w3 150 #[.int .i64 k.t, .int .i64 k.c, .int .i64 k.e, .string (str b), .slice A3 l.length c3]).cell (0 + j)
        rw [this, Nat.zero_add, List.getElem?_toArray]
        exact hv)
       generalize hw4 : w3.alloc (.cells #[.int .i64 k.t, .int .i64 k.c, .int .i64 k.e, .string (str b), .slice A3 l.length c3] 150) = w4 at *
       clear hw4
       refine hK.out _ _ ((HB4.out.block w.heap.size (by have := HKW.out; have := HB3'.out.size; omega)).trans (HB3'.out.block w.heap.size HKW.out)) (fun HS => ?_)
       clear hK K
       try simp only [Act.put, zA]
       refine qR 11 fun K hK => ?_
       rw [if_pos (by rfl)]
       refine wp_append_z 110 150 _ 5 64 Tryz.underlying110 Tryz.infoSe rfl (by decide) (by decide) _ _ rfl A es.length c (ecs es) rfl (own_keep HV3.out.row fun d hd => (HB4.out.block d (by have := own_lt HV3.out.row d hd; have := HB3'.out.size; omega)).trans (HB3'.out.block d (own_lt HV3.out.row d hd))) w3.heap.size rfl (⟨k, b, l, A3, c3⟩ : Ep).cells rfl HN4.out (ep_cell _) HLE.out ?_
       intro A5 c5 w5 ho5 hg5 hA5
       have HL5 := hid (VaAt.sealed HV3.out k b l HLL.out HB3'.out HO3.out HB4.out ho5 hg5 hA5)
       have eg5 : w5.heap[g]? = w2.heap[g]? := (hg5.block g (by have := HV3.out.blk.lt; have := HB3'.out.size; have := HB4.out.size; omega) (fun e => (HV3.out.Ag g e.symm).1 rfl)).trans ((HB4.out.block g (by have := HV3.out.blk.lt; have := HB3'.out.size; omega)).trans (HB3'.out.block g HV3.out.blk.lt))
       have f5 := (HV3.out.blk.keep eg5).frozen 0
       have u0 := (HV3.out.blk.keep eg5).cell 0
       simp only [zD, zF] at u0
       have HKB : Hid (w5.heap[w.heap.size]? = w2.heap[w.heap.size]?) := hid ((hg5.block w.heap.size (by have := HKW.out; have := HB3'.out.size; have := HB4.out.size; omega) (fun e => HNF.out w.heap.size (HV3.out.Ag w.heap.size e.symm).2.2 rfl)).trans ((HB4.out.block w.heap.size (by have := HKW.out; have := HB3'.out.size; omega)).trans (HB3'.out.block w.heap.size HKW.out)))
       have HV0 : Hid ((w5.setCell ⟨g, 0, none⟩ (.slice A5 (es.length + 1) c5)).cell? ⟨g, 0, none⟩ = some (.slice A5 (es.length + 1) c5)) := hid (by simpa using ((HV3.out.blk.keep eg5).store 0 (.slice A5 (es.length + 1) c5)).cell 0)
       clear ho5 hg5 hA5 eg5
       rw [HNN.out] at *
       refine hK.out _ _ HKB.out (fun HS => ?_)
       clear hK K
       try simp only [Act.put, zA]
       refine qT 12 ?vpead12 ?ypead12 HS ?rpead12
       case ypead12 => refine qI fun wS hSw => ?_; go_simp; try with_reducible rfl
       try simp only [Act.put, zA]
       refine qT 13 ?vpead13 ?ypead13 HS ?rpead13
       case ypead13 => refine qI fun wS hSw => ?_; go_simp; try with_reducible rfl
       try simp only [Act.put, zA]
       refine qR 14 fun K hK => ?_
       go_simp
       refine hK.out _ _ ((Below.heap_setCell w5 ⟨g, 0, none⟩ _ w.heap.size (fun e => by have e' : w.heap.size = g := e; have := HGW.out; omega)).trans HKB.out) (fun HS => ?_)
       clear hK K
       try simp only [Act.put]
       refine qD ?_
       clear HS HKB u0 f5
       have v0 := HV0.out
       go_wp2
       go_ret2
       exact ⟨rfl, VLeft.after HB3.out HL5.out⟩
      case steppe10 =>
       rw [if_pos (by rfl)]
       obtain ⟨ie, hie, hz0, hz1, hz2⟩ := info_parts Tryz.infoSe
       refine wp_buildSlice 110 150 1 _ rfl #[.int .i64 k.t, .int .i64 k.c, .int .i64 k.e, .string (str b), .slice A3 l.length c3] ie _ Tryz.underlying110 hie hz0 (by rw [hz1]; decide) (by rw [hz1]; decide) (by rw [hz1]; simp only [List.map_toArray, List.map_cons, List.map_nil]; exact filled_seal k (str b) A3 l.length c3) ?_
       have HB4 : Hid (Below w3.heap.size w3 (w3.alloc (.cells #[.int .i64 k.t, .int .i64 k.c, .int .i64 k.e, .string (str b), .slice A3 l.length c3] 150))) := hid ((Below.refl _ _).alloc (nl _) _)
       have HN4 : Hid ((w3.alloc (.cells #[.int .i64 k.t, .int .i64 k.c, .int .i64 k.e, .string (str b), .slice A3 l.length c3] 150)).rangeAt w3.heap.size 0 (⟨k, b, l, A3, c3⟩ : Ep).cells) := hid (fun j v hv => by
        have := (Blk.new w3 150 #[.int .i64 k.t, .int .i64 k.c, .int .i64 k.e, .string (str b), .slice A3 l.length c3]).cell (0 + j)
        rw [this, Nat.zero_add, List.getElem?_toArray]
        exact hv)
       generalize hw4 : w3.alloc (.cells #[.int .i64 k.t, .int .i64 k.c, .int .i64 k.e, .string (str b), .slice A3 l.length c3] 150) = w4 at *
       clear hw4
       refine hK.out _ _ ((HB4.out.block w.heap.size (by have := HKW.out; have := HB3'.out.size; omega)).trans (HB3'.out.block w.heap.size HKW.out)) (fun HS => ?_)
       clear hK K
       try simp only [Act.put, zA]
       refine qR 4 fun K hK => ?_
       rw [if_pos (by rfl)]
       refine wp_load_slice 110 (.tmp 26) rfl 150 Tryz.underlying110 g 0 rfl _ ((World.cell?_of_block ((HB4.out.block g (by have := HV3.out.blk.lt; have := HB3'.out.size; omega)).trans (HB3'.out.block g HV3.out.blk.lt))).trans yd) ?_
       refine hK.out _ _ ((HB4.out.block w.heap.size (by have := HKW.out; have := HB3'.out.size; omega)).trans (HB3'.out.block w.heap.size HKW.out)) (fun HS => ?_)
       clear hK K
       try simp only [Act.put, zA]
       refine qR 11 fun K hK => ?_
       rw [if_pos (by rfl)]
       refine wp_append_z 110 150 _ 5 64 Tryz.underlying110 Tryz.infoSe rfl (by decide) (by decide) _ _ rfl A es.length c (ecs es) rfl (own_keep HV3.out.row fun d hd => (HB4.out.block d (by have := own_lt HV3.out.row d hd; have := HB3'.out.size; omega)).trans (HB3'.out.block d (own_lt HV3.out.row d hd))) w3.heap.size rfl (⟨k, b, l, A3, c3⟩ : Ep).cells rfl HN4.out (ep_cell _) HLE.out ?_
       intro A5 c5 w5 ho5 hg5 hA5
       have HL5 := hid (VaAt.sealed HV3.out k b l HLL.out HB3'.out HO3.out HB4.out ho5 hg5 hA5)
       have eg5 : w5.heap[g]? = w2.heap[g]? := (hg5.block g (by have := HV3.out.blk.lt; have := HB3'.out.size; have := HB4.out.size; omega) (fun e => (HV3.out.Ag g e.symm).1 rfl)).trans ((HB4.out.block g (by have := HV3.out.blk.lt; have := HB3'.out.size; omega)).trans (HB3'.out.block g HV3.out.blk.lt))
       have f5 := (HV3.out.blk.keep eg5).frozen 0
       have u0 := (HV3.out.blk.keep eg5).cell 0
       simp only [zD, zF] at u0
       have HKB : Hid (w5.heap[w.heap.size]? = w2.heap[w.heap.size]?) := hid ((hg5.block w.heap.size (by have := HKW.out; have := HB3'.out.size; have := HB4.out.size; omega) (fun e => HNF.out w.heap.size (HV3.out.Ag w.heap.size e.symm).2.2 rfl)).trans ((HB4.out.block w.heap.size (by have := HKW.out; have := HB3'.out.size; omega)).trans (HB3'.out.block w.heap.size HKW.out)))
       have HV0 : Hid ((w5.setCell ⟨g, 0, none⟩ (.slice A5 (es.length + 1) c5)).cell? ⟨g, 0, none⟩ = some (.slice A5 (es.length + 1) c5)) := hid (by simpa using ((HV3.out.blk.keep eg5).store 0 (.slice A5 (es.length + 1) c5)).cell 0)
       clear ho5 hg5 hA5 eg5
       rw [HNN.out] at *
       refine hK.out _ _ HKB.out (fun HS => ?_)
       clear hK K
       try simp only [Act.put, zA]
       refine qT 12 ?vpebc12 ?ypebc12 HS ?rpebc12
       case ypebc12 => refine qI fun wS hSw => ?_; go_simp; try with_reducible rfl
       try simp only [Act.put, zA]
       refine qT 13 ?vpebc13 ?ypebc13 HS ?rpebc13
       case ypebc13 => refine qI fun wS hSw => ?_; go_simp; try with_reducible rfl
       try simp only [Act.put, zA]
       refine qR 14 fun K hK => ?_
       go_simp
       refine hK.out _ _ ((Below.heap_setCell w5 ⟨g, 0, none⟩ _ w.heap.size (fun e => by have e' : w.heap.size = g := e; have := HGW.out; omega)).trans HKB.out) (fun HS => ?_)
       clear hK K
       try simp only [Act.put]
       refine qD ?_
       clear HS HKB u0 f5
       have v0 := HV0.out
       go_wp2
       go_ret2
       exact ⟨rfl, VLeft.after HB3.out HL5.out⟩
def nilE (k : Ky) : Ep := ⟨k, [], [], none, 0⟩
def wipeE (k : Ky) (x : Ep) : Ep := if x.k = k then nilE k else x
theorem wipeE_en (k : Ky) (x : Ep) : (wipeE k x).en = wipe k x.en := by
 unfold wipeE wipe
 by_cases h : x.k = k
 · rw [if_pos h, if_pos (show x.en.k = k from h)]
   rfl
 · rw [if_neg h, if_neg (show ¬ x.en.k = k from h)]
def vmix (k : Ky) (es : List Ep) (j : Nat) : List Ep := (es.take j).map (wipeE k) ++ es.drop j
theorem vmix_len (k : Ky) (es : List Ep) (j : Nat) : (vmix k es j).length = es.length := by simp [vmix]; omega
theorem vmix_zero (k : Ky) (es : List Ep) : vmix k es 0 = es := by simp [vmix]
theorem vmix_all (k : Ky) (es : List Ep) : vmix k es es.length = es.map (wipeE k) := by simp [vmix]
theorem vmix_at (k : Ky) (es : List Ep) {j : Nat} (hj : j < es.length) : (vmix k es j)[j]'(by rw [vmix_len]; exact hj) = es[j] := by
 unfold vmix
 rw [List.getElem_append_right (by simp; omega)]
 simp [Nat.min_eq_left (Nat.le_of_lt hj)]
theorem vmix_succ (k : Ky) (es : List Ep) {j : Nat} (hj : j < es.length) : vmix k es (j + 1) = (vmix k es j).set j (wipeE k es[j]) := by
 unfold vmix
 rw [List.take_succ_eq_append_getElem hj, List.map_append, List.set_append_right _ _ (by simp; omega)]
 have : j - ((es.take j).map (wipeE k)).length = 0 := by simp; omega
 have e : (es.drop j).set 0 (wipeE k es[j]) = wipeE k es[j] :: es.drop (j + 1) := by rw [List.drop_eq_getElem_cons hj]; rfl
 rw [this, e]
 simp
theorem vmix_keep (k : Ky) (es : List Ep) {j : Nat} (hj : j < es.length) (h : es[j].k ≠ k) : vmix k es (j + 1) = vmix k es j := by
 rw [vmix_succ k es hj, wipeE, if_neg h]
 conv => lhs; rw [← vmix_at k es hj]
 exact List.set_getElem_self _
theorem ecs_set (es : List Ep) {j : Nat} (hj : j < es.length) (x : Ep) : ecs (es.set j x) = ecs (es.take j) ++ (x.cells ++ ecs (es.drop (j + 1))) := by
 rw [List.set_eq_take_append_cons_drop, if_pos hj, ecs_app]
 rfl
theorem ecs_parts (es : List Ep) {j : Nat} (hj : j < es.length) : (ecs es).take (j * 5) = ecs (es.take j) ∧ (ecs es).drop (j * 5 + 5) = ecs (es.drop (j + 1)) := by
 have h1 : (ecs (es.take j)).length = j * 5 := by rw [ecs_len, List.length_take, Nat.min_eq_left (Nat.le_of_lt hj)]
 have h2 : (es[j].cells).length = 5 := rfl
 rw [ecs_split es hj]
 refine ⟨by rw [← h1, List.take_left], ?_⟩
 rw [← List.append_assoc, show j * 5 + 5 = (ecs (es.take j) ++ es[j].cells).length by rw [List.length_append, h1, h2], List.drop_left]
theorem own_wipe {w : World} {b c : Nat} {es : List Ep} (h : w.ownsRow 0 150 5 (.slice (some ⟨b, 0, none⟩) es.length c) es.length (ecs es)) {j : Nat} (hj : j < es.length) (x : Ep) :
 (w.setCells b (j * 5) x.cells).ownsRow 0 150 5 (.slice (some ⟨b, 0, none⟩) (es.set j x).length c) (es.set j x).length (ecs (es.set j x)) ∧ w.there b (j * 5) 5 := by
 rcases h.2 with ⟨hv, _⟩ | ⟨g', cap, cur, hv, hb, hg, hnc, hcm, hcs, ht⟩
 · cases hv
 injection hv with hA _ hcap
 injection hA with hA
 injection hA with hA
 subst hA hcap
 have hB : Blk w b 150 cur := hg
 have hx5 : x.cells.length = 5 := rfl
 have hsz : es.length * 5 ≤ cur.size := by have h1 : cur.size = c * 5 := hcs; omega
 have hth : w.there b (j * 5) 5 := fun i hi => ⟨by rw [hB.cell, Array.getElem?_eq_getElem (by omega)]; rfl, hB.frozen _⟩
 obtain ⟨cs', h1, h2⟩ := Blk.setCells x.cells (j * 5) w cur hB (by rw [hx5]; omega)
 refine ⟨⟨by rw [ecs_len], .inr ⟨b, c, cs', by rw [List.length_set], hb, h1, by rw [List.length_set]; exact hnc, hcm, ?_, ?_⟩⟩, hth⟩
 · have := congrArg List.length h2
   simp only [Array.length_toList, List.length_append, List.length_take, List.length_drop, hx5] at this
   rw [this, ← hcs]
   omega
 · obtain ⟨p1, p2⟩ := ecs_parts es hj
   have hl : (ecs es).length = es.length * 5 := ecs_len es
   have ht' : cur.toList.take (es.length * 5) = ecs es := ht
   have hcur : cur.toList = ecs es ++ cur.toList.drop (es.length * 5) := by rw [← ht', List.take_append_drop]
   have q1 : cur.toList.take (j * 5) = ecs (es.take j) := by rw [← p1, ← ht', List.take_take, Nat.min_eq_left (by omega)]
   have q2 : cur.toList.drop (j * 5 + 5) = ecs (es.drop (j + 1)) ++ cur.toList.drop (es.length * 5) := by
    conv => lhs; rw [hcur]
    rw [List.drop_append_of_le_length (by omega), p2]
   have q3 : ecs (es.take j) ++ x.cells ++ (ecs (es.drop (j + 1)) ++ cur.toList.drop (es.length * 5)) = ecs (es.set j x) ++ cur.toList.drop (es.length * 5) := by rw [ecs_set es hj x]; simp [List.append_assoc]
   rw [List.length_set, h2, hx5, q1, q2, q3]
   exact List.take_left' (by rw [ecs_len, List.length_set])
structure Dst (w wr : World) (F : Nat → Prop) (g : Nat) (G : List Ky) (m : Nat) (A : Option Addr) (c : Nat) (es : List Ep) (kb : Nat) (k : Ky) (j : Nat) : Prop where
 at_ : VaAt wr F g ⟨(vmix k es j).map Ep.en, G⟩ m A c (vmix k es j)
 kp : Kp F w wr
 key : Blk wr kb 54 #[.int .i64 k.t, .int .i64 k.c, .int .i64 k.e]
section
variable {w wr : World} {F : Nat → Prop} {g : Nat} {G : List Ky} {m : Nat} {A : Option Addr} {c : Nat} {es : List Ep} {kb : Nat} {k : Ky} {j : Nat}
theorem Dst.bel (h : Dst w wr F g G m A c es kb k j) {wr' : World} (hb : Below wr.heap.size wr wr') : Dst w wr' F g G m A c es kb k j := ⟨h.at_.bel hb, h.kp.trans (Kp.ofBelow hb), h.key.keep (hb.block kb h.key.lt)⟩
theorem Dst.cell (h : Dst w wr F g G m A c es kb k j) : wr.cell? ⟨g, 0, none⟩ = some (.slice A es.length c) := by
 have := h.at_.cells.1
 rwa [vmix_len] at this
theorem Dst.elem (h : Dst w wr F g G m A c es kb k j) (hj : j < es.length) : ∃ b, A = some ⟨b, 0, none⟩ ∧ b < wr.heap.size ∧ wr.rangeAt b (j * 5) es[j].cells := by
 obtain ⟨b, h1, h2, h3⟩ := h.at_.range (j := j) (by rw [vmix_len]; exact hj)
 rw [vmix_at k es hj] at h3
 exact ⟨b, h1, h2, h3⟩
theorem Dst.keep (h : Dst w wr F g G m A c es kb k j) (hj : j < es.length) (hne : es[j].k ≠ k) : Dst w wr F g G m A c es kb k (j + 1) := by
 refine ⟨?_, h.kp, h.key⟩
 rw [vmix_keep k es hj hne]
 exact h.at_
theorem Dst.wipe {b : Nat} (h : Dst w wr F g G m (some ⟨b, 0, none⟩) c es kb k j) (hj : j < es.length) (he : es[j].k = k) (hkb : ¬ F kb) : Dst w (wr.setCells b (j * 5) (nilE k).cells) F g G m (some ⟨b, 0, none⟩) c es kb k (j + 1) := by
 have hj' : j < (vmix k es j).length := by rw [vmix_len]; exact hj
 have hm : vmix k es (j + 1) = (vmix k es j).set j (nilE k) := by rw [vmix_succ k es hj, wipeE, if_pos he]
 obtain ⟨h1, h2⟩ := own_wipe h.at_.row hj' (nilE k)
 have hg := grown_setCells b (nilE k).cells (j * 5) wr
 have Ab := h.at_.Ag b rfl
 have kb_ : ∀ i, i < wr.heap.size → i ≠ b → (wr.setCells b (j * 5) (nilE k).cells).heap[i]? = wr.heap[i]? := fun i hi hne => hg.block i hi (fun e => hne (by injection e))
 have lt := h.at_.F
 refine ⟨?_, h.kp.trans (Kp.setCells wr b _ _ Ab.2.2), h.key.keep (kb_ kb h.key.lt (fun e => hkb (e ▸ Ab.2.2)))⟩
 rw [hm]
 refine ⟨by have := h.at_.blk.keep (kb_ g (lt g h.at_.Fg) (Ne.symm Ab.1)); rw [List.length_set]; exact this, h1, rfl, fun x hx => ?_, ?_, h.at_.gm, h.at_.Ag, h.at_.Fg, h.at_.Fm, fun i hi => Nat.lt_of_lt_of_le (lt i hi) hg.size⟩
 · rcases List.mem_or_eq_of_mem_set hx with hx | rfl
   · obtain ⟨x1, x2, x3⟩ := h.at_.bts x hx
     exact ⟨x1.at1 hg.size fun u hu => kb_ u (lt u (x3 u hu).1) (fun e => (x3 u hu).2.2.2 (by rw [e]; rfl)), x2, x3⟩
   · exact ⟨Bts.nil _ _ _ _, Nat.zero_le _, fun u hu => by cases hu⟩
 · obtain ⟨n, D, m1, m2⟩ := h.at_.map
   exact ⟨n, D, ownsMap_keep m1 (kb_ m (lt m h.at_.Fm) (Ne.symm Ab.2.1)), m2⟩
theorem Dst.there {b : Nat} (h : Dst w wr F g G m (some ⟨b, 0, none⟩) c es kb k j) (hj : j < es.length) : wr.there b (j * 5) 5 := (own_wipe h.at_.row (show j < (vmix k es j).length by rw [vmix_len]; exact hj) (nilE k)).2
theorem Dst.left (h : Dst w wr F g G m A c es kb k es.length) {s : Va} (hs : es.map Ep.en = s.L) (hG : G = s.G ++ [k]) : VLeft w wr F g (s.destroy k) := by
 refine ⟨F, ⟨m, A, c, vmix k es es.length, ?_⟩, h.kp, fun j hj => .inl hj⟩
 · have e : (vmix k es es.length).map Ep.en = (s.destroy k).L := by
    show _ = s.L.map (Go.Proofs.YtolaojkcofbkhaaGreat.wipe k)
    rw [vmix_all, ← hs, List.map_map, List.map_map]
    exact List.map_congr_left fun x _ => wipeE_en k x
   have := h.at_
   rw [e, hG] at this
   exact this
end
theorem wp_mapUpdate {op : Oper} {a : Act} {w w' : World} {K : Act → World → Prop} {Q : Exit → Act → World → Prop} (t : TypeId) (m x v : Operand) (ho : op.op = .mapUpdate t m x v) (M k u : Value) (hm : a.eval m = M) (hx : a.eval x = k) (hv : a.eval v = u)
 (hrun : (Instr.mapUpdate t M k u).run Tryz.prog w = .ok () w') (h : K (a.put op.dst undef) w') : op.wp Tryz.prog a w K Q := by
 unfold Oper.wp execOp
 simp only [ho, hm, hx, hv, Sem.run_bind, hrun, Result.andThen_ok]
 exact h
theorem built_nil (k : Ky) : Tryz.prog.built 150 [(0, (.agg #[.int .i64 (k).t, .int .i64 (k).c, .int .i64 (k).e]))] = some (nilE k).cells.toArray := by kernel_rfl
theorem destroy_any (w : World) (F : Nat → Prop) (g : Nat) (s : Va) (h : Vlt w F g s) (k : Ky) (hk : k.wf) (hL : s.L.length ≤ 1000000) (hG : s.G.length ≤ 1000000) :
 Calls Tryz.prog 26 #[.pointer (some ⟨g, 0, none⟩), (.agg #[.int .i64 (k).t, .int .i64 (k).c, .int .i64 (k).e])] w fun e w' => e = .returned (.tuple #[]) ∧ VLeft w w' F g (s.destroy k) := by
 obtain ⟨m, A, c, es, h⟩ := h
 have hb1 : Below w.heap.size w (w.alloc (.cells #[.int .i64 k.t, .int .i64 k.c, .int .i64 k.e] 54)) := (Below.refl _ _).alloc (nl _) _
 have hB := Blk.new w 54 #[.int .i64 k.t, .int .i64 k.c, .int .i64 k.e]
 have HV := hid (h.bel hb1)
 have HVF := hid h.F
 have HKP := hid (Kp.ofBelow (F := F) hb1)
 have HB := hid hB
 have HK := hid hk
 have HG := hid hG
 have HLE : Hid (es.length ≤ 1000000) := hid (by rw [h.len]; exact hL)
 have HNF : Hid (¬ F w.heap.size) := hid (fun e => by have := h.F _ e; omega)
 have HSL := hid h.ens
 clear h hk hG hL hb1 hB
 go_enter Tryz.func26, Tryz.ntmps26
 go_wp2_with fail
 generalize w.alloc (.cells #[.int .i64 k.t, .int .i64 k.c, .int .i64 k.e] 54) = w1 at *
 refine wp_region_held_drew (S := fun wx => wx.heap[g]? = w1.heap[g]? ∧ wx.heap[w.heap.size]? = w1.heap[w.heap.size]?) (by kernel_rfl) ⟨rfl, rfl⟩ (fun HS => ?_)
 refine qT 0 ?v0 ?y0 HS ?r0
 case y0 => refine qI fun wS hSw => ?_; go_simp; try with_reducible rfl
 try simp only [Act.put, zA]
 refine qT 1 ?v1 ?y1 HS ?r1
 case y1 => refine qI fun wS hSw => ?_; go_simp; try with_reducible rfl
 try simp only [Act.put, zA]
 refine qT 2 ?v2 ?y2 HS ?r2
 case y2 => refine qI fun wS hSw => ?_; go_simp; try with_reducible rfl
 try simp only [Act.put, zA]
 refine qT 3 ?v3 ?y3 HS ?r3
 case y3 =>
  refine qI fun wS hSw => ?_
  have c1 := (HV.out.blk.keep hSw.1).cell 1
  simp only [zD, zF, zE] at c1
  go_simp
  try with_reducible rfl
 try simp only [Act.put, zA]
 refine qT 4 ?v4 ?y4 HS ?r4
 case y4 =>
  refine qI fun wS hSw => ?_
  have hKS := HB.out.keep hSw.2
  have c0 := hKS.cell 0
  have c1 := hKS.cell 1
  have c2 := hKS.cell 2
  simp only [zD, zF, zE] at c0 c1 c2
  go_simp
  try with_reducible rfl
 try simp only [Act.put, zA]
 refine qT 5 ?v5 ?y5 HS ?r5
 case y5 => refine qI fun wS hSw => ?_; go_simp; try with_reducible rfl
 try simp only [Act.put, zA]
 refine qR 6 fun K hK => ?_
 rw [if_pos (by rfl)]
 obtain ⟨w2, hrun, hg2, hv2⟩ := (HV.out.bel (Below.refl _ _).drew).mark k HK.out HG.out
 refine wp_mapUpdate 109 _ _ _ rfl _ _ _ rfl rfl rfl hrun ?_
 have HG2 : Hid (w2.heap[g]? = w1.heap[g]?) := hid (hg2.block g (HV.out.F g HV.out.Fg) (fun e => HV.out.gm (by injection e)))
 have HK2 : Hid (w2.heap[w.heap.size]? = w1.heap[w.heap.size]?) := hid (hg2.block w.heap.size HB.out.lt (fun e => HNF.out (by injection e with e; rw [e]; exact HV.out.Fm)))
 have HD : Hid (Dst w w2 F g (s.G ++ [k]) m A c es w.heap.size k 0) := hid ⟨by rw [vmix_zero, HV.out.ens]; exact hv2, (HKP.out.trans (Kp.drew F w1)).trans (Kp.grown hg2 (fun i hi => by injection hi with hi; subst hi; exact .inl HV.out.Fm)), HB.out.keep HK2.out⟩
 clear hrun hg2 hv2
 refine hK.out _ _ ⟨HG2.out, HK2.out⟩ (fun HS => ?_)
 clear hK K
 try simp only [Act.put]
 refine qD ?_
 clear HS HG2 HK2 HV HKP HB
 have h0 := HD.out.cell
 go_wp2_with fail
 go_loopg [18] es.length (fun kk iv wr => ∃ (j : Nat), iv = .int .i64 (j : Int) ∧ Hid (kk = es.length - j) ∧ Hid (j ≤ es.length) ∧ Hid (Dst w wr F g (s.G ++ [k]) m A c es w.heap.size k j))
 case atStart => exact ⟨0, rfl, hid (by omega), hid (Nat.zero_le _), HD⟩
 case round =>
  obtain ⟨j, rfl, hgk, hj, hI⟩ := hrel
  clear HD h0
  rcases Nat.lt_or_ge j es.length with hlt | hge
  · have HLT := hid hlt
    obtain ⟨b, rfl, hbl, hR⟩ := hI.out.elem hlt
    have j1 : (0 : Int) ≤ (j : Int) := by omega
    have j2 : (j : Int) < (es.length : Int) := by omega
    have j3 : decide ((j : Int) < (es.length : Int)) = true := by simpa using hlt
    have j4 : decide (j < es.length) = true := by simpa using hlt
    have wj : wrap64 ((j : Int) + 1) = ((j + 1 : Nat) : Int) := by have := HLE.out; unfold wrap64; omega
    have heq := eq_key es[j].k k
    have HRK : Hid (∀ wx, Below wr.heap.size wr wx → wx.cell? ⟨g, 0, none⟩ = some (.slice (some ⟨b, 0, none⟩) es.length c) ∧ wx.rangeAt b (j * 5) [.int .i64 es[j].k.t, .int .i64 es[j].k.c, .int .i64 es[j].k.e] ∧ wx.cell? ⟨w.heap.size, 0, none⟩ = some (.int .i64 k.t) ∧ wx.cell? ⟨w.heap.size, 1, none⟩ = some (.int .i64 k.c) ∧ wx.cell? ⟨w.heap.size, 2, none⟩ = some (.int .i64 k.e)) := hid (fun wx hx => by
     have hk := (hI.out.bel hx).key
     refine ⟨(hI.out.bel hx).cell, fun i v hv => (rangeAt_keep hR (hx.block b hbl)) i v ?_, by simpa using hk.cell 0, by simpa using hk.cell 1, by simpa using hk.cell 2⟩
     have hi : i < 3 := (List.getElem?_eq_some_iff.1 hv).1
     rw [← hv]
     match i, hi with
     | 0, _ => rfl
     | 1, _ => rfl
     | 2, _ => rfl)
    by_cases he : es[j].k = k
    · have HE := hid he
      rw [decide_eq_true he] at heq
      clear hR hbl he hlt
      as_aux_lemma =>
      go_wp2_with fail
      refine wp_region_held_drew (S := fun wx => Below wr.heap.size wr wx) (by kernel_rfl) (Below.refl _ _).drew (fun HS => ?_)
      refine qT 0 ?vx0 ?yx0 HS ?rx0
      case yx0 => refine qI fun wS hSw => ?_; go_simp; try with_reducible rfl
      try simp only [Act.put, zA]
      refine qT 1 ?vx1 ?yx1 HS ?rx1
      case yx1 => refine qI fun wS hSw => ?_; go_simp; try with_reducible rfl
      try simp only [Act.put, zA]
      refine qT 2 ?vx2 ?yx2 HS ?rx2
      case yx2 => refine qI fun wS hSw => ?_; go_simp; try with_reducible rfl
      try simp only [Act.put, zA]
      refine qT 3 ?vx3 ?yx3 HS ?rx3
      case yx3 =>
       refine qI fun wS hSw => ?_
       obtain ⟨g0, r0, k0, k1, k2⟩ := HRK.out wS hSw
       go_simp
       try with_reducible rfl
      try simp only [Act.put, zA]
      refine qT 4 ?vx4 ?yx4 HS ?rx4
      case yx4 => refine qI fun wS hSw => ?_; go_simp; try with_reducible rfl
      try simp only [Act.put, zA]
      refine qT 5 ?vx5 ?yx5 HS ?rx5
      case yx5 => refine qI fun wS hSw => ?_; go_simp; try with_reducible rfl
      try simp only [Act.put, zA]
      refine qT 6 ?vx6 ?yx6 HS ?rx6
      case yx6 => refine qI fun wS hSw => ?_; go_simp; try with_reducible rfl
      try simp only [Act.put, zA]
      refine qT 7 ?vx7 ?yx7 HS ?rx7
      case yx7 =>
       refine qI fun wS hSw => ?_
       refine Eq.trans (exec_load_mid 54 (.tmp 27) ?_ b (j * 5) ?_ [.int .i64 es[j].k.t, .int .i64 es[j].k.c, .int .i64 es[j].k.e] _ (HRK.out wS hSw).2.1 Tryz.underlying54 rfl Tryz.infoKey) ?_
       · rfl
       · rfl
       · with_reducible rfl
      try simp only [Act.put, zA]
      refine qT 8 ?vx8 ?yx8 HS ?rx8
      case yx8 =>
       refine qI fun wS hSw => ?_
       obtain ⟨g0, r0, k0, k1, k2⟩ := HRK.out wS hSw
       go_simp
       try with_reducible rfl
      try simp only [Act.put, zA]
      refine qT 9 ?vx9 ?yx9 HS ?rx9
      case yx9 => refine qI fun wS hSw => ?_; go_simp; try with_reducible rfl
      try simp only [Act.put, zA]
      refine qD ?_
      clear HS
      go_wp2_with fail
      refine wp_region_held_drew (S := fun wx => wx.heap[g]? = wr.heap[g]? ∧ wx.heap[w.heap.size]? = wr.heap[w.heap.size]?) (by kernel_rfl) ⟨rfl, rfl⟩ (fun HS => ?_)
      refine qT 0 ?vy0 ?yy0 HS ?ry0
      case yy0 => refine qI fun wS hSw => ?_; go_simp; try with_reducible rfl
      try simp only [Act.put, zA]
      refine qT 1 ?vy1 ?yy1 HS ?ry1
      case yy1 => refine qI fun wS hSw => ?_; go_simp; try with_reducible rfl
      try simp only [Act.put, zA]
      refine qT 2 ?vy2 ?yy2 HS ?ry2
      case yy2 => refine qI fun wS hSw => ?_; go_simp; try with_reducible rfl
      try simp only [Act.put, zA]
      refine qT 3 ?vy3 ?yy3 HS ?ry3
      case yy3 =>
       refine qI fun wS hSw => ?_
       have g0 := hI.out.cell
       rw [← World.cell?_of_block (a := ⟨g, 0, none⟩) hSw.1] at g0
       go_simp
       try with_reducible rfl
      try simp only [Act.put, zA]
      refine qT 4 ?vy4 ?yy4 HS ?ry4
      case yy4 => refine qI fun wS hSw => ?_; go_simp; try with_reducible rfl
      try simp only [Act.put, zA]
      refine qT 5 ?vy5 ?yy5 HS ?ry5
      case yy5 =>
       refine qI fun wS hSw => ?_
       have hKS := hI.out.key.keep hSw.2
       have c0 := hKS.cell 0
       have c1 := hKS.cell 1
       have c2 := hKS.cell 2
       simp only [zD, zF, zE] at c0 c1 c2
       go_simp
       try with_reducible rfl
      try simp only [Act.put, zA]
      refine qT 6 ?vy6 ?yy6 HS ?ry6
      case yy6 =>
       refine qI fun wS hSw => ?_
       refine Eq.trans (exec_build 150 #[(0, .tmp 36)] ?_ #[(0, (.agg #[.int .i64 (k).t, .int .i64 (k).c, .int .i64 (k).e]))] ?_ _ (built_nil k)) ?_
       · rfl
       · simp only [List.map_toArray, List.map_cons, List.map_nil]; rfl
       · with_reducible rfl
      try simp only [Act.put, zA]
      refine qT 7 ?vy7 ?yy7 HS ?ry7
      case yy7 => refine qI fun wS hSw => ?_; go_simp; try with_reducible rfl
      try simp only [Act.put, zA]
      refine qR 8 fun K hK => ?_
      rw [if_pos (by rfl)]
      refine wp_store_mid 150 _ _ rfl b (j * 5) (nilE k).cells.toArray rfl rfl (hI.out.there HLT.out) Tryz.infoSe1 (all_oneCell_toArray (ep_cell _)) ?_
      have HG2 : Hid ((wr.drew.drew.setCells b (j * 5) (nilE k).cells).heap[g]? = wr.heap[g]?) := hid ((grown_setCells b (nilE k).cells (j * 5) wr.drew.drew).block g (hI.out.at_.F g hI.out.at_.Fg) (fun e => (hI.out.at_.Ag b rfl).1 (by injection e with e; exact e.symm)))
      have HK2 : Hid ((wr.drew.drew.setCells b (j * 5) (nilE k).cells).heap[w.heap.size]? = wr.heap[w.heap.size]?) := hid ((grown_setCells b (nilE k).cells (j * 5) wr.drew.drew).block w.heap.size hI.out.key.lt (fun e => HNF.out (by injection e with e; rw [e]; exact (hI.out.at_.Ag b rfl).2.2)))
      have HD : Hid (Dst w (wr.drew.drew.setCells b (j * 5) (nilE k).cells) F g (s.G ++ [k]) m (some ⟨b, 0, none⟩) c es w.heap.size k (j + 1)) := hid ((hI.out.bel ((Below.refl _ _).drew.drew)).wipe HLT.out HE.out HNF.out)
      refine hK.out _ _ ⟨HG2.out, HK2.out⟩ (fun HS => ?_)
      clear hK K
      try simp only [Act.put]
      refine qD ?_
      clear HS HG2 HK2 hI
      go_wp2
      go_roundg (es.length - (j + 1))
      case measure => have := hgk.out; have := HLT.out; omega
      case rel => exact ⟨j + 1, congrArg (Value.int .i64) (by first | exact wj | omega | rfl), hid rfl, hid (by have := HLT.out; omega), HD⟩
    · have HD : Hid (Dst w wr.drew F g (s.G ++ [k]) m (some ⟨b, 0, none⟩) c es w.heap.size k (j + 1)) := hid ((hI.out.bel (Below.refl _ _).drew).keep hlt he)
      rw [decide_eq_false he] at heq
      clear hR hbl he hlt
      as_aux_lemma =>
      go_wp2_with fail
      refine wp_region_held_drew (S := fun wx => Below wr.heap.size wr wx) (by kernel_rfl) (Below.refl _ _).drew (fun HS => ?_)
      refine qT 0 ?vz0 ?yz0 HS ?rz0
      case yz0 => refine qI fun wS hSw => ?_; go_simp; try with_reducible rfl
      try simp only [Act.put, zA]
      refine qT 1 ?vz1 ?yz1 HS ?rz1
      case yz1 => refine qI fun wS hSw => ?_; go_simp; try with_reducible rfl
      try simp only [Act.put, zA]
      refine qT 2 ?vz2 ?yz2 HS ?rz2
      case yz2 => refine qI fun wS hSw => ?_; go_simp; try with_reducible rfl
      try simp only [Act.put, zA]
      refine qT 3 ?vz3 ?yz3 HS ?rz3
      case yz3 =>
       refine qI fun wS hSw => ?_
       obtain ⟨g0, r0, k0, k1, k2⟩ := HRK.out wS hSw
       go_simp
       try with_reducible rfl
      try simp only [Act.put, zA]
      refine qT 4 ?vz4 ?yz4 HS ?rz4
      case yz4 => refine qI fun wS hSw => ?_; go_simp; try with_reducible rfl
      try simp only [Act.put, zA]
      refine qT 5 ?vz5 ?yz5 HS ?rz5
      case yz5 => refine qI fun wS hSw => ?_; go_simp; try with_reducible rfl
      try simp only [Act.put, zA]
      refine qT 6 ?vz6 ?yz6 HS ?rz6
      case yz6 => refine qI fun wS hSw => ?_; go_simp; try with_reducible rfl
      try simp only [Act.put, zA]
      refine qT 7 ?vz7 ?yz7 HS ?rz7
      case yz7 =>
       refine qI fun wS hSw => ?_
       refine Eq.trans (exec_load_mid 54 (.tmp 27) ?_ b (j * 5) ?_ [.int .i64 es[j].k.t, .int .i64 es[j].k.c, .int .i64 es[j].k.e] _ (HRK.out wS hSw).2.1 Tryz.underlying54 rfl Tryz.infoKey) ?_
       · rfl
       · rfl
       · with_reducible rfl
      try simp only [Act.put, zA]
      refine qT 8 ?vz8 ?yz8 HS ?rz8
      case yz8 =>
       refine qI fun wS hSw => ?_
       obtain ⟨g0, r0, k0, k1, k2⟩ := HRK.out wS hSw
       go_simp
       try with_reducible rfl
      try simp only [Act.put, zA]
      refine qT 9 ?vz9 ?yz9 HS ?rz9
      case yz9 => refine qI fun wS hSw => ?_; go_simp; try with_reducible rfl
      try simp only [Act.put, zA]
      refine qD ?_
      clear HS
      go_wp2
      go_roundg (es.length - (j + 1))
      case measure => have := hgk.out; have := HLT.out; omega
      case rel => exact ⟨j + 1, congrArg (Value.int .i64) (by first | exact wj | omega | rfl), hid rfl, hid (by have := HLT.out; omega), HD⟩
  · obtain rfl : j = es.length := by have := hj.out; omega
    have HL5 := hid (hI.out.left HSL.out rfl)
    as_aux_lemma =>
    clear hI
    go_wp2
    go_end0
    exact ⟨rfl, HL5.out⟩
def Ky.cells (k : Ky) : List Value := [.int .i64 k.t, .int .i64 k.c, .int .i64 k.e]
theorem own_str {w : World} {base : Nat} {A : Option Addr} {n c : Nat} {l : List UInt8} (h : w.ownsRow base 5 1 (.slice A n c) n (bs l)) : (convert 51 9 (.slice A n c)).run Tryz.prog w = .ok (.string (str l)) w := run_str _ _ _ Tryz.underlying51 Tryz.underlying5 Tryz.underlying9 (Bts.own h)
def Lies (A A' : Option Addr) (n : Nat) : Prop := ∀ d, A'.map (·.block) = some d → A.map (·.block) = some d ∨ d = n
def kcs (ks : List Ky) : List Value := ks.flatMap Ky.cells
theorem kcs_app (a b : List Ky) : kcs (a ++ b) = kcs a ++ kcs b := by simp [kcs]
theorem kcs_one (k : Ky) : kcs [k] = k.cells := by simp [kcs]
theorem kcs_len (ks : List Ky) : (kcs ks).length = ks.length * 3 := by
 induction ks with
 | nil => rfl
 | cons x r ih =>
  show (x.cells ++ kcs r).length = _
  rw [List.length_append, ih]
  simp [Ky.cells]
  omega
theorem ky_cell (k : Ky) : ∀ u ∈ k.cells, u.oneCell' = true := by
 intro u hu
 simp only [Ky.cells, List.mem_cons, List.not_mem_nil, or_false] at hu
 rcases hu with rfl | rfl | rfl <;> rfl
theorem kcs_at (ks : List Ky) {j : Nat} (hj : j < ks.length) : ∀ t u, ks[j].cells[t]? = some u → (kcs ks)[j * 3 + t]? = some u := by
 intro t u hu
 have hl : (kcs (ks.take j)).length = j * 3 := by
  rw [kcs_len, List.length_take, Nat.min_eq_left (Nat.le_of_lt hj)]
 have ht := (List.getElem?_eq_some_iff.1 hu).1
 have e : kcs ks = kcs (ks.take j) ++ (ks[j].cells ++ kcs (ks.drop (j + 1))) := by
  conv => lhs; rw [show ks = ks.take j ++ (ks[j] :: ks.drop (j + 1)) by simp]
  rw [kcs_app]
  rfl
 rw [e, List.getElem?_append_right (by omega), List.getElem?_append_left (by rw [hl]; simp only [Nat.add_sub_cancel_left]; exact ht), hl, Nat.add_sub_cancel_left]
 exact hu
def KRow (w : World) (A : Option Addr) (c : Nat) (ks : List Ky) : Prop := w.ownsRow 0 54 3 (.slice A ks.length c) ks.length (kcs ks)
theorem KRow.keep {w w' : World} {A : Option Addr} {c : Nat} {ks : List Ky} (h : KRow w A c ks) (hk : ∀ b, A.map (·.block) = some b → w'.heap[b]? = w.heap[b]?) : KRow w' A c ks := own_keep h hk
theorem KRow.elem {w : World} {A : Option Addr} {c : Nat} {ks : List Ky} (h : KRow w A c ks) {j : Nat} (hj : j < ks.length) : ∃ b, A = some ⟨b, 0, none⟩ ∧ b < w.heap.size ∧ w.rangeAt b (j * 3) ks[j].cells := by
 obtain ⟨b, hA, hlt, hr⟩ := own_range h (by omega)
 exact ⟨b, hA, hlt, fun t u hu => by
  have := hr (j * 3 + t) u (kcs_at ks hj t u hu)
  rwa [Nat.zero_add] at this⟩
theorem Tryz.infoK : (Tryz.prog.info? 54).map (fun i => (i.zero, i.size, i.bytes)) = some (some (.agg #[.int .i64 0, .int .i64 0, .int .i64 0]), 3, 24) := by kernel_rfl
theorem blk_cells {w : World} {b : Nat} {k : Ky} (h : Blk w b 54 #[.int .i64 k.t, .int .i64 k.c, .int .i64 k.e]) : w.cell? ⟨b, 0, none⟩ = some (.int .i64 k.t) ∧ w.cell? ⟨b, 1, none⟩ = some (.int .i64 k.c) ∧ w.cell? ⟨b, 2, none⟩ = some (.int .i64 k.e) :=
 ⟨by simpa using h.cell 0, by simpa using h.cell 1, by simpa using h.cell 2⟩
theorem blk_range {w : World} {b : Nat} {k : Ky} (h : Blk w b 54 #[.int .i64 k.t, .int .i64 k.c, .int .i64 k.e]) : w.rangeAt b 0 k.cells := fun j v hv => by
 rw [h.cell, Nat.zero_add]
 simpa [Ky.cells] using hv
end Go.Proofs.YtolaojkcofbkhaaGreat
