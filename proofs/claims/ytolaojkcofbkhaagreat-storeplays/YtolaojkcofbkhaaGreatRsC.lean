import Derived.Test.YtolaojkcofbkhaaGreatRsK
import Derived.Test.YtolaojkcofbkhaaGreatStPl
namespace Go.Proofs.YtolaojkcofbkhaaGreat
set_option maxRecDepth 100000
set_option maxHeartbeats 32000000
open Go.RowKit
def RStX (gs ge gw gz : Nat) (L : List Bb) (dn : Bool) (B : Option Addr) (k : Nat) : Ob := fun w F => RSoB w gs ge gw gz L dn B k ∧ ∀ j, F j ↔ j = gs ∨ B.map (·.block) = some j
section
variable {w wr w' : World} {P : Ob} {X Y : Nat → Prop} {gs ge gw gz k k' : Nat} {L L' : List Bb} {dn dn' : Bool} {B B' : Option Addr}
theorem RStX.ok (gs ge gw gz : Nat) (L : List Bb) (dn : Bool) (B : Option Addr) (k : Nat) : (RStX gs ge gw gz L dn B k).Ok := by
 refine ⟨?_, ?_⟩
 · rintro w w' F ⟨h, hF⟩ _ hk
   exact ⟨h.keep (hk _ ((hF _).2 (.inl rfl))) fun b e => hk b ((hF b).2 (.inr e)), hF⟩
 · rintro w F ⟨h, hF⟩ j hj
   rcases (hF j).1 hj with rfl | e
   · exact h.blk.lt
   · exact own_lt h.row j e
theorem rsx_fix (h : On w (P.and (RStO gs ge gw gz L dn)) wr X) : ∃ B k, On w (P.and (RStX gs ge gw gz L dn B k)) wr X := by
 obtain ⟨F, ⟨A, D, h1, ⟨B, k, h2, h3⟩, h4, h5⟩, h6⟩ := h
 exact ⟨B, k, F, ⟨A, D, h1, ⟨h2, h3⟩, h4, h5⟩, h6⟩
theorem rsx_at (h : On w (P.and (RStX gs ge gw gz L dn B k)) wr X) : RSoB wr gs ge gw gz L dn B k := by
 obtain ⟨F, ⟨A, D, h1, ⟨h2, h3⟩, h4, h5⟩, h6⟩ := h
 exact h2
theorem rsx_p (gs ge gw gz : Nat) (L : List Bb) (dn : Bool) (B : Option Addr) (k : Nat) : Foc fun P => P.and (RStX gs ge gw gz L dn B k) := Foc.one Foc.self (RStX.ok _ _ _ _ _ _ _ _)
theorem rsx_turn (hP : P.Ok) (hO : On w (P.and (RStX gs ge gw gz L dn B k)) wr X) (hg : wr.grownBy w' (some gs)) (hb : Blk w' gs 74 #[.pointer (some ⟨ge, 0, none⟩), .pointer (some ⟨gw, 0, none⟩), .pointer (some ⟨gz, 0, none⟩), .slice B' L'.length k', .bool dn'])
 (hr : BRow 90 w' 0 B' k' L') (hne : ∀ b, B'.map (·.block) = some b → b ≠ gs) (hY : ∀ x, Y x → X x) (hu : (∀ b, B'.map (·.block) = some b → X b ∧ ¬ Y b) ∨ B' = B) : On w (P.and (RStO gs ge gw gz L' dn')) w' Y := by
 obtain ⟨F, ⟨A, D, h1, ⟨h2, h3⟩, h4, h5⟩, h6, h7, h8⟩ := hO
 have hgs : D gs := (h3 gs).2 (.inl rfl)
 have hAg : ∀ j, A j → j ≠ gs := fun j hj e => h4 j hj (e ▸ hgs)
 have hBD : ∀ b, B'.map (·.block) = some b → D b ∨ X b := fun b e => by
  rcases hu with hu | hu
  · exact .inr (hu b e).1
  · subst hu; exact .inl ((h3 b).2 (.inr e))
 refine ⟨fun j => A j ∨ (j = gs ∨ B'.map (·.block) = some j), ⟨A, fun j => j = gs ∨ B'.map (·.block) = some j, hP.keep wr w' A h1 hg.size (fun j hj => hg.block j (hP.lt wr A h1 j hj) (fun e => hAg j hj (by injection e))), ⟨B', k', ⟨hb, hr, hne⟩, fun _ => Iff.rfl⟩, fun j hj hj2 => ?_, fun _ => Iff.rfl⟩, fun j hj => ?_, h7.grown hg h7.size (fun j hj => by injection hj with hj; rw [← hj]; exact h6 gs ((h5 gs).2 (.inr hgs))), fun x hx => ?_⟩
 · rcases hj2 with rfl | e
   · exact hAg j hj rfl
   · rcases hBD j e with e2 | e2
     · exact h4 j hj e2
     · exact (h8 j e2).1 ((h5 j).2 (.inl hj))
 · rcases hj with hj | rfl | e
   · exact h6 j ((h5 j).2 (.inl hj))
   · exact h6 j ((h5 j).2 (.inr hgs))
   · rcases hBD j e with e2 | e2
     · exact h6 j ((h5 j).2 (.inr e2))
     · exact (h8 j e2).2.2
 · obtain ⟨b1, b2, b3⟩ := h8 x (hY x hx)
   refine ⟨?_, Nat.lt_of_lt_of_le b2 hg.size, b3⟩
   rintro (e | rfl | e)
   · exact b1 ((h5 x).2 (.inl e))
   · exact b1 ((h5 x).2 (.inr hgs))
   · rcases hu with hu | hu
     · exact (hu x e).2 hx
     · subst hu; exact b1 ((h5 x).2 (.inr ((h3 x).2 (.inr e))))
end
theorem pl1_drop {G : List Ky} {ver : Nat} {s : Pl} {x : Ch} (h : x.drop = true) : pl1 G ver s x = some { s with nx := without s.nx x.nm } := if_pos h
theorem pl1_full {G : List Ky} {ver : Nat} {s : Pl} {x : Ch} (h : x.drop = false) (hf : s.fr = []) : pl1 G ver s x = none := by
 unfold pl1
 rw [if_neg (by rw [h]; decide), hf]
theorem pl1_lay {G : List Ky} {ver : Nat} {s : Pl} {x : Ch} {f : Nat} {r : List Nat} (h : x.drop = false) (hf : s.fr = f :: r) : pl1 G ver s x = some ⟨with_ (without s.nx x.nm) (newB x f s.id ver), s.id + 1, r, s.dead || decide (x.k ∈ G), s.ws ++ [(newB x f s.id ver, x.body)]⟩ := by
 unfold pl1
 rw [if_neg (by rw [h]; decide), hf]
theorem plan_stop {G : List Ky} {ver : Nat} {l : List Ch} {j : Nat} {s0 : Pl} (h : plan G ver (l.take j) s0 = none) : plan G ver l s0 = none := by
 have := plan_app G ver (l.take j) (l.drop j) s0
 rw [List.take_append_drop, h] at this
 exact this
theorem wrs_size : ∀ (ws : List (Bb × List UInt8)) (d : St) (v : Va), (wrs ws d v).2.1.W.length ≤ d.W.length + ws.length ∧ (wrs ws d v).2.1.n = d.n ∧ (wrs ws d v).2.2.L.length ≤ v.L.length + ws.length ∧ (wrs ws d v).2.2.G = v.G
 | [], d, v => ⟨nl _, rfl, nl _, rfl⟩
 | (b, t) :: r, d, v => by
  have h1 := pwD_W d v b.b b.p t.length
  have h2 := pwD_n d v b.b b.p t.length
  have h3 := pwV_L d v b.b b.p t
  rw [wrs]
  split
  · refine ⟨?_, h2, ?_, h3.2⟩
    · show (pwD d v b.b b.p t.length).W.length ≤ _
      rw [List.length_cons]; omega
    · show (pwV d v b.b b.p t).L.length ≤ _
      rw [List.length_cons]; omega
  · obtain ⟨k1, k2, k3, k4⟩ := wrs_size r (pwD d v b.b b.p t.length) (pwV d v b.b b.p t)
    refine ⟨?_, k2.trans h2, ?_, k4.trans h3.2⟩
    · rw [List.length_cons]; omega
    · rw [List.length_cons]; omega
theorem wrs_more {ws : List (Bb × List UInt8)} {d d' : St} {v v' : Va} (h : wrs ws d v = (0, d', v')) (b : Bb) (t : List UInt8) : wrs (ws ++ [(b, t)]) d v = (pwE d' v' b.b b.p t.length, pwD d' v' b.b b.p t.length, pwV d' v' b.b b.p t) := by
 rw [wrs_app, h, if_neg (fun h => h rfl)]
 exact wrs_one b t d' v'
theorem wrs_fail {a b : List (Bb × List UInt8)} {d : St} {v : Va} (h : (wrs a d v).1 ≠ 0) : wrs (a ++ b) d v = wrs a d v := by rw [wrs_app, if_pos h]
def dn9 (nx : List Bb) (l : List Ch) (i : Nat) : List (Bb × List UInt8) := wsOf nx (l.take i)
def pt9 (nx : List Bb) (x : Ch) (k : Nat) : List (Bb × List UInt8) := ((nx.take k).filter fun b => decide (b.nm = x.nm)).map fun b => (b, x.body)
theorem dn9_snoc (nx : List Bb) {l : List Ch} {i : Nat} (hi : i < l.length) : dn9 nx l (i + 1) = dn9 nx l i ++ pt9 nx l[i] nx.length := by
 unfold dn9 pt9 wsOf
 rw [List.take_succ_eq_append_getElem hi, List.flatMap_append, List.take_length]
 show _ ++ (_ ++ []) = _
 rw [List.append_nil]
theorem pt9_snoc {nx : List Bb} (x : Ch) {k : Nat} (hk : k < nx.length) : pt9 nx x (k + 1) = pt9 nx x k ++ if nx[k].nm = x.nm then [(nx[k], x.body)] else [] := by
 unfold pt9
 rw [List.take_succ_eq_append_getElem hk, List.filter_append, List.map_append]
 congr 1
 by_cases h : nx[k].nm = x.nm
 · rw [if_pos h, List.filter_cons, if_pos (decide_eq_true h)]; rfl
 · rw [if_neg h, List.filter_cons, if_neg (by rw [decide_eq_false h]; decide)]; rfl
theorem dn9_pre (nx : List Bb) {l : List Ch} {i k : Nat} (hi : i < l.length) (hk : k < nx.length) (h : nx[k].nm = l[i].nm) : ∃ r, wsOf nx l = (dn9 nx l i ++ pt9 nx l[i] k) ++ [(nx[k], l[i].body)] ++ r := by
 have e1 : wsOf nx l = dn9 nx l (i + 1) ++ wsOf nx (l.drop (i + 1)) := by
  unfold dn9 wsOf
  rw [← List.flatMap_append, List.take_append_drop]
 have e2 : pt9 nx l[i] nx.length = pt9 nx l[i] (k + 1) ++ (((nx.drop (k + 1)).filter fun b => decide (b.nm = l[i].nm)).map fun b => (b, l[i].body)) := by
  unfold pt9
  rw [← List.map_append, ← List.filter_append, List.take_length, List.take_append_drop]
 rw [e1, dn9_snoc nx hi, e2, pt9_snoc _ hk, if_pos h]
 exact ⟨(((nx.drop (k + 1)).filter fun b => decide (b.nm = l[i].nm)).map fun b => (b, l[i].body)) ++ wsOf nx (l.drop (i + 1)), by simp only [List.append_assoc]⟩
theorem dn9_all (nx : List Bb) (l : List Ch) : dn9 nx l l.length = wsOf nx l := by unfold dn9; rw [List.take_length]
theorem dn9_len (nx : List Bb) {l : List Ch} {i : Nat} (hi : i < l.length) (k : Nat) : (dn9 nx l i).length + (pt9 nx l[i] k).length ≤ (wsOf nx l).length := by
 have e1 : wsOf nx l = dn9 nx l (i + 1) ++ wsOf nx (l.drop (i + 1)) := by
  unfold dn9 wsOf
  rw [← List.flatMap_append, List.take_append_drop]
 have e2 : pt9 nx l[i] nx.length = pt9 nx l[i] k ++ (((nx.drop k).filter fun b => decide (b.nm = l[i].nm)).map fun b => (b, l[i].body)) := by
  unfold pt9
  rw [← List.map_append, ← List.filter_append, List.take_length, List.take_append_drop]
 rw [e1, dn9_snoc nx hi, e2]
 simp only [List.length_append]
 omega
theorem built_b9 (s : ByteArray) (k : Ky) (f : Int) (a b c d e sz : Int) : Tryz.prog.built 90 [(0, .string s), (1, (.agg #[.int .i64 (k).t, .int .i64 (k).c, .int .i64 (k).e])), (2, .int .i64 f), (3, .agg #[.int .i64 a, .int .i64 b, .int .i64 c, .int .i64 d, .int .i64 e]), (4, .int .i64 sz)] = some #[.string s, .int .i64 k.t, .int .i64 k.c, .int .i64 k.e, .int .i64 f, .int .i64 a, .int .i64 b, .int .i64 c, .int .i64 d, .int .i64 e, .int .i64 sz] := by kernel_rfl
theorem ni9_at {w : World} {base k n : Nat} {A : Option Addr} {F : List Nat} (h : w.ownsRow base 3 1 (.slice A n k) n (ni9 F)) {j : Nat} (hj : j < F.length) : ∃ b, A = some ⟨b, 0, none⟩ ∧ b < w.heap.size ∧ w.cell? ⟨b, j, none⟩ = some (.int .i64 ((F[j] : Nat) : Int)) := by
 have hl : n = F.length := by have := h.1; rw [Nat.mul_one] at this; rw [← this]; simp [ni9]
 obtain ⟨b, hA, hb, hr⟩ := own_range h (by omega)
 refine ⟨b, hA, hb, ?_⟩
 have := hr j (.int .i64 ((F[j] : Nat) : Int)) (by simp [ni9, List.getElem?_eq_getElem hj])
 rwa [Nat.zero_add] at this
def RCm (w : World) (F : Nat → Prop) (ge gw gz gs : Nat) (S : Int × Sr) (e : Ending) (w' : World) : Prop :=
 e = .returned (.int .i64 S.1) ∧ (RS ge S.2.d gw S.2.v gz S.2.c gs S.2.L S.2.dn).Left w w' F
theorem RCm.same {w w' : World} {F : Nat → Prop} {ge gw gz gs : Nat} {S : Int × Sr} {E : Int} {d : St} {t : Va} {c : Ce} {L : List Bb} {dn : Bool} (h0 : RS ge d gw t gz c gs L dn w F) (hS : S = (E, ⟨d, t, c, L, dn⟩)) (hb : Below w.heap.size w w') : RCm w F ge gw gz gs S (.returned (.int .i64 E)) w' := by
 subst hS
 exact ⟨rfl, Ob.Left.bel (RS.ok _ _ _ _ _ _ _ _ _) h0 hb⟩
theorem RCm.on {w w' wz : World} {F : Nat → Prop} {ge gw gz gs : Nat} {S : Int × Sr} {E : Int} {d : St} {t : Va} {c : Ce} {L : List Bb} {dn : Bool} (hS : S = (E, ⟨d, t, c, L, dn⟩)) (hO : On wz (RS ge d gw t gz c gs L dn) w' (fun x => x < w.heap.size ∧ ¬ F x)) (hB : Below wz.heap.size wz w) (hs : w.heap.size ≤ w'.heap.size) (hB' : ∀ x, x < w.heap.size → ¬ F x → w'.heap[x]? = w.heap[x]?) : RCm w F ge gw gz gs S (.returned (.int .i64 E)) w' := by
 subst hS
 exact ⟨rfl, ts_left hs hO (fun _ h1 h2 => ⟨h1, h2⟩) hB hB'⟩
theorem hc_body {w : World} {U : Nat → Prop} {x : Hc} (h : HcOk U w x) : (convert 51 9 (.slice x.A x.n x.c)).run Tryz.prog w = .ok (.string (str x.body)) w :=
 run_str (P := Tryz.prog) (c := x.c) 51 9 5 Tryz.underlying51 Tryz.underlying5 Tryz.underlying9 h.b
theorem rcommit_c {w : World} {F : Nat → Prop} {ge gw gz gs n q : Nat} {d : St} {t : Va} {c : Ce} {L : List Bb} {dn : Bool} {A : Option Addr} {l : List Hc} (h0 : RS ge d gw t gz c gs L dn w F) (h : ChOn (fun b => ¬ F b) w A n l) (hnq : n ≤ q) (hn : n ≤ 10000)
 (hR : Rgt L) (hwf : ∀ x ∈ L, x.wf) (hn2 : 2 ≤ d.n) (hW : d.W.length ≤ 30000) (htl : t.L.length ≤ 300000) (htg : t.G.length ≤ 400000) (hv : c.ver ≤ 400000) :
 Calls Tryz.prog 19 #[.pointer (some ⟨gs, 0, none⟩), .slice A n q] w (RCm w F ge gw gz gs (cmS ⟨d, t, c, L, dn⟩ (l.map Hc.ch))) := by
 obtain ⟨wz, hwz⟩ : ∃ wz : World, wz = { w with heap := #[] } := ⟨_, rfl⟩
 have hZ : wz.heap.size = 0 := by rw [hwz]; rfl
 have HZ : Hid (Below wz.heap.size wz w) := hid (by rw [hwz]; exact ⟨rfl, rfl, rfl, Nat.zero_le _, fun k hk => absurd hk (Nat.not_lt_zero k)⟩)
 have hO0 : On wz (RS ge d gw t gz c gs L dn) w (fun x => x < w.heap.size ∧ ¬ F x) := ⟨F, h0, fun _ _ => by rw [hZ]; exact Nat.zero_le _, HZ.out, fun x hx => ⟨hx.2, hx.1, by rw [hZ]; exact Nat.zero_le _⟩⟩
 obtain ⟨B, k, hO1⟩ := rsx_fix hO0
 have HD4 : Hid (d.n ≤ 4096) := hid (by obtain ⟨_, _, _, _, h4⟩ := rdk_at ((rs_t gs ge gw gz L dn).comp (tr_d gw t gz c)) hO0; exact h4)
 have hso := rsx_at hO1
 obtain ⟨s0, s1, s2, s3, s4⟩ := hso.cells
 have HH := hid h0
 have HO0 := hid hO0
 have HO1 := hid hO1
 have HSO := hid hso
 have HCH := hid h
 have HN := hid (And.intro hn hnq)
 have HLN : Hid (l.length = n) := hid h.len
 have HR := hid hR
 have HWF := hid hwf
 have HD := hid (And.intro hn2 (And.intro hW (And.intro htl (And.intro htg hv))))
 have HLL : Hid (L.length ≤ 1000) := hid hR.2.2
 have HS : Hid (∃ S, S = cmS ⟨d, t, c, L, dn⟩ (l.map Hc.ch)) := hid ⟨_, rfl⟩
 obtain ⟨S, hS⟩ := HS.out
 rw [← hS]
 have HSE := hid hS
 clear hwz hO0 hO1 hso h0 h hnq hn hR hwf hn2 hW htl htg hv hS HS
 cases dn with
 | true =>
  have HF : Hid (S = (40, ⟨d, t, c, L, true⟩)) := hid (by rw [HSE.out]; exact if_pos rfl)
  go_enter Tryz.func19, Tryz.ntmps19
  go_wp2
  go_ret
  exact RCm.same HH.out HF.out (Below.refl _ _)
 | false =>
 have HS1 : Hid (∀ E, ckE L (l.map Hc.ch) = E → E ≠ 0 → S = (E, ⟨d, t, c, L, false⟩)) := hid (fun E h1 h2 => by
  rw [HSE.out]
  unfold cmS
  rw [if_neg (by simp), if_pos (by rw [h1]; exact h2), h1])
 have hck := rsck_on (C := fun P => (TR ge d gw t gz c).and P) (rs_s ge d gw t gz c) HO0.out HCH.out HN.out.2 HN.out.1 (Nat.le_trans HLL.out (by decide))
 obtain ⟨E, hE⟩ : ∃ E, ckE L (l.map Hc.ch) = E := ⟨_, rfl⟩
 rw [hE] at hck
 have HE := hid hE
 clear hE
 go_enter Tryz.func19, Tryz.ntmps19
 go_wp2_with fail
 refine hck.mono ?_
 rintro e w1 ⟨rfl, hb1⟩
 have HB1 := hid hb1
 clear hb1 hck s0 s1 s2 s3 s4
 by_cases hE0 : E = 0
 case neg =>
  have z : (E != 0) = true := by simpa using hE0
  have HF := hid (HS1.out E HE.out hE0)
  clear hE0
  go_wp2
  go_ret
  exact RCm.same HH.out HF.out HB1.out
 have z : (E != 0) = false := by rw [hE0]; simp
 have HCK : Hid (ckE L (l.map Hc.ch) = 0) := hid (by rw [HE.out, hE0])
 have HOK := hid (ck_ok HCK.out)
 subst hE0
 clear HS1 HE
 have HS1 : Hid (planS ⟨d, t, c, L, false⟩ (l.map Hc.ch) = none → S = (60, ⟨d, t, c, L, false⟩)) := hid (fun h1 => by
  rw [HSE.out]
  unfold cmS
  rw [if_neg (by simp), if_neg (by rw [HCK.out]; decide), h1])
 have HS2 : Hid (∀ p, planS ⟨d, t, c, L, false⟩ (l.map Hc.ch) = some p → (1000 < p.nx.length ∨ 65536 < (dirB p.nx).length) → S = (60, ⟨d, t, c, L, false⟩)) := hid (fun p h1 h2 => by
  rw [HSE.out]
  unfold cmS
  rw [if_neg (by simp), if_neg (by rw [HCK.out]; decide), h1]
  dsimp only
  rw [if_pos h2])
 have HS3 : Hid (∀ p, planS ⟨d, t, c, L, false⟩ (l.map Hc.ch) = some p → ¬ (1000 < p.nx.length ∨ 65536 < (dirB p.nx).length) → p.dead = true → S = (50, ⟨d, t, c, L, false⟩)) := hid (fun p h1 h2 h3 => by
  rw [HSE.out]
  unfold cmS
  rw [if_neg (by simp), if_neg (by rw [HCK.out]; decide), h1]
  dsimp only
  rw [if_neg h2, if_pos h3])
 have HS4 : Hid (∀ p, planS ⟨d, t, c, L, false⟩ (l.map Hc.ch) = some p → ¬ (1000 < p.nx.length ∨ 65536 < (dirB p.nx).length) → p.dead = false →
  (∀ E d' v', wrs p.ws d t = (E, d', v') → E ≠ 0 → S = (E, ⟨d', v', c, L, true⟩)) ∧
  (∀ d' v', wrs p.ws d t = (0, d', v') → (ptE d' v' c (dirB p.nx).length ≠ 0 → S = (ptE d' v' c (dirB p.nx).length, ⟨ptD d' v' c (dirB p.nx).length, ptV d' v' c (dirB p.nx), ptC d' v' c (dirB p.nx).length, L, true⟩)) ∧
   (ptE d' v' c (dirB p.nx).length = 0 → S = (0, ⟨ptD d' v' c (dirB p.nx).length, ptV d' v' c (dirB p.nx), ptC d' v' c (dirB p.nx).length, p.nx, false⟩)))) := hid (fun p h1 h2 h3 => by
  have e : S = cmS ⟨d, t, c, L, false⟩ (l.map Hc.ch) := HSE.out
  unfold cmS at e
  rw [if_neg (by simp), if_neg (by rw [HCK.out]; decide), h1] at e
  dsimp only at e
  rw [if_neg h2, if_neg (by rw [h3]; decide)] at e
  refine ⟨fun E d' v' hw hE => ?_, fun d' v' hw => ⟨fun hp => ?_, fun hp => ?_⟩⟩
  · rw [hw, if_pos hE] at e; exact e
  · rw [hw, if_neg (fun h => h rfl), if_pos hp] at e; exact e
  · rw [hw, if_neg (fun h => h rfl), if_neg (fun h => h hp)] at e; exact e)
 have HGO : Hid (∀ wq, Below w.heap.size w wq → On wz ((TR ge d gw t gz c).and (RStX gs ge gw gz L false B k)) wq (fun x => x < w.heap.size ∧ ¬ F x)) := hid (fun wq hb => HO1.out.go ((TR.ok _ _ _ _ _ _).and (RStX.ok _ _ _ _ _ _ _ _)) hb)
 have hfr := rsfree_on (C := fun P => P) Foc.self (HO0.out.go (RS.ok _ _ _ _ _ _ _ _ _) HB1.out) HD.out.1 (Nat.le_trans HLL.out (by decide))
 go_wp2_with fail
 refine hfr.mono ?_
 rintro e w2 ⟨A2, k2, rfl, ho2, hb2⟩
 have HB2 := hid (HB1.out.trans (hb2.mono HB1.out.size))
 have HFR0 : Hid (w2.ownsRow w1.heap.size 3 1 (.slice A2 (frs d.n L).length k2) (frs d.n L).length (ni9 (frs d.n L))) := hid ho2
 have HPLN : Hid (planS ⟨d, t, c, L, false⟩ (l.map Hc.ch) = plan t.G c.ver (l.map Hc.ch) ⟨L, t.L.length, frs d.n L, false, []⟩) := hid rfl
 have HFM : Hid (∀ f ∈ frs d.n L, f < 5000) := hid (fun f hf => by have h1 := (frs_mem.1 hf).1.2; have h2 := HD.out; have h3 := HD4.out; omega)
 obtain ⟨s0, s1, s2, s3, s4⟩ := (HSO.out.bel HB2.out).cells
 obtain ⟨VA, Vk, hv0⟩ := rlook_on (C := fun P => ((((RDvO ge d).and P).and (RCeO gz c)).and (RStX gs ge gw gz L false B k))) ((rsx_p gs ge gw gz L false B k).comp (tr_v ge d gz c)) (HGO.out w2 HB2.out)
 have HFN : Hid ((frs d.n L).Nodup) := hid (frs_nodup d.n L)
 have HFL : Hid (∀ f ∈ frs d.n L, ∀ b ∈ L, b.b ≠ (f : Int)) := hid (fun f hf b hb => (frs_mem.1 hf).2 b hb)
 clear ho2 hb2 hfr z
 go_wp2_with fail
 clear s0 s1 s2 s3 s4 hv0
 generalize frs d.n L = FR at *
 go_loopg [7, 8, 9, 10, 45] n (fun kk nv iv lv dv jv wq => ∃ (s : Pl) (la j : Nat) (B' : Option Addr) (k' : Nat), nv = .slice B' s.nx.length k' ∧ iv = .int .i64 (s.id : Int) ∧ lv = .int .i64 (la : Int) ∧ dv = .bool s.dead ∧ jv = .int .i64 (j : Int) ∧ Hid (kk = n - j) ∧ Hid (j ≤ n) ∧
  Hid (plan t.G c.ver ((l.map Hc.ch).take j) ⟨L, t.L.length, FR, false, []⟩ = some s) ∧ Hid (s.fr = FR.drop la ∧ la ≤ FR.length ∧ la ≤ j) ∧ Hid (s.nx.length ≤ L.length + j ∧ s.id ≤ t.L.length + j) ∧
  Hid (BRow 90 wq 0 B' k' s.nx) ∧ Hid ((∀ b, B'.map (·.block) = some b → w.heap.size ≤ b) ∨ (B' = B ∧ k' = k ∧ s.nx = L)) ∧ Hid (Below w2.heap.size w2 wq))
 case atStart => exact ⟨⟨L, t.L.length, FR, false, []⟩, 0, 0, B, k, rfl, rfl, rfl, rfl, rfl, hid rfl, hid (Nat.zero_le _), hid rfl, hid ⟨rfl, Nat.zero_le _, nl _⟩, hid ⟨nl _, nl _⟩, hid (HSO.out.bel HB2.out).row, hid (.inr ⟨rfl, rfl, rfl⟩), hid (Below.refl _ _)⟩
 case round =>
 obtain ⟨s, la, j, B', k', rfl, rfl, rfl, rfl, rfl, hgk, hj, hP, hF, hL, hRow, hBB, hB⟩ := hrel
 rename World => wq
 have HBQ := hid (HB2.out.trans (hB.out.mono HB2.out.size))
 rcases Nat.lt_or_ge j n with hlt | hge
 · have HJ := hid hlt
   have hjl : j < l.length := by rw [HLN.out]; exact hlt
   have j1 : (0 : Int) ≤ (j : Int) := Int.natCast_nonneg j
   have j2 : (j : Int) < (n : Int) := Int.ofNat_lt.2 hlt
   have j3 : decide ((j : Int) < (n : Int)) = true := decide_eq_true j2
   have j4 : decide (j < n) = true := decide_eq_true hlt
   have wj : wrap64 ((j : Int) + 1) = ((j + 1 : Nat) : Int) := by have := HN.out; unfold wrap64; omega
   have wid : wrap64 ((s.id : Int) + 1) = ((s.id + 1 : Nat) : Int) := by have := HN.out; have := hL.out; have := HD.out; unfold wrap64; omega
   have wla : wrap64 ((la : Int) + 1) = ((la + 1 : Nat) : Int) := by have := HN.out; have := hF.out; unfold wrap64; omega
   obtain ⟨lb, off, rfl, hlb, hbl, hr0, hx0⟩ := (HCH.out.keep HBQ.out.size (fun b _ hb => HBQ.out.block b hb)).at_ hjl
   have HX := hid hx0
   have HXO := hid (HOK.out.1 _ (List.getElem_mem hjl))
   have HSNOC : Hid (plan t.G c.ver ((l.map Hc.ch).take (j + 1)) ⟨L, t.L.length, FR, false, []⟩ = pl1 t.G c.ver s l[j].ch) := hid (by
    rw [List.take_succ_eq_append_getElem (by rw [List.length_map]; exact hjl), plan_snoc, hP.out, List.getElem_map]; rfl)
   obtain ⟨x, hx⟩ : ∃ x, l[j]'hjl = x := ⟨_, rfl⟩
   rw [hx] at hr0 HX HXO HSNOC
   clear hx
   obtain ⟨c0, c1, c2, c3, c4, c5⟩ := range6 hr0
   have hb5 : Below wq.heap.size wq (wq.alloc (.cells #[.string (str x.nm), .int .i64 x.k.t, .int .i64 x.k.c, .int .i64 x.k.e, .slice x.A x.n x.c, .bool x.dr] 94)) := (Below.refl _ _).alloc (nl _) _
   have HB5 := hid (HBQ.out.trans (hb5.mono HBQ.out.size))
   have HB25 := hid (hB.out.trans (hb5.mono hB.out.size))
   have hk5 := Blk.new wq 94 #[.string (str x.nm), .int .i64 x.k.t, .int .i64 x.k.c, .int .i64 x.k.e, .slice x.A x.n x.c, .bool x.dr]
   have HK5 := hid hk5
   obtain ⟨x0, x1, x2, x3, x4, x5⟩ := hcB_cells (x := x) hk5
   have HBL : Hid (x.body.length = x.n) := hid HX.out.b.1
   have HBS5 : Hid (BSl (wq.alloc (.cells #[.string (str x.nm), .int .i64 x.k.t, .int .i64 x.k.c, .int .i64 x.k.e, .slice x.A x.n x.c, .bool x.dr] 94)) (wq.alloc (.cells #[.string (str x.nm), .int .i64 x.k.t, .int .i64 x.k.c, .int .i64 x.k.e, .slice x.A x.n x.c, .bool x.dr] 94)).heap.size B' s.nx.length s.nx) := hid (BRow.sl (own_bel hRow.out hb5))
   have HNXL : Hid (s.nx.length ≤ 100000) := hid (by have := hL.out; have := HLL.out; have := HN.out; omega)
   have HWL : Hid ((without s.nx x.nm).length ≤ s.nx.length) := hid (List.length_filter_le _ _)
   obtain ⟨tb, htb⟩ : ∃ tb, wq.heap.size = tb := ⟨_, rfl⟩
   rw [htb] at HK5
   have HTB := hid htb
   have HTBW : Hid (w.heap.size ≤ tb) := hid (by rw [← htb]; exact HBQ.out.size)
   clear hlt hjl hbl hr0 hx0 hb5 hk5 htb hlb
   cases hdr : x.dr with
   | true =>
    have HNEXT := hid (HSNOC.out.trans (pl1_drop (x := x.ch) hdr))
    rw [hdr] at c5 x5 HK5 HB5 HB25 HBS5
    clear hdr
    go_wp2_with fail
    refine (rwithout_c B' s.nx.length k' s.nx x.nm _ HBS5.out HNXL.out).mono ?_
    rintro e w6 ⟨A6, c6, rfl, hr6, hb6⟩
    have HB6 := hid (HB25.out.trans (hb6.mono HB25.out.size))
    have HR6 := hid hr6
    have HSZ := hid HB5.out.size
    have HK6 := hid (HK5.out.keep (hb6.block _ HK5.out.lt))
    obtain ⟨x0', x1', x2', x3', x4', x5'⟩ : _ ∧ _ ∧ _ ∧ _ ∧ _ ∧ w6.cell? ⟨tb, 5, none⟩ = some (.bool true) := ⟨trivial, trivial, trivial, trivial, trivial, (HK6.out.cell 5).trans rfl⟩
    rw [HTB.out]
    clear hb6 hr6 c0 c1 c2 c3 c4 c5 x0 x1 x2 x3 x4 x5
    go_wp2_with fail
    go_roundg (n - (j + 1))
    case measure => exact rs_meas hgk.out HJ.out
    case rel => exact ⟨{ s with nx := without s.nx x.nm }, la, j + 1, A6, c6, rfl, rfl, rfl, rfl, by first | rfl | rw [wj], hid rfl, hid HJ.out, HNEXT, hid ⟨hF.out.1, hF.out.2.1, Nat.le_succ_of_le hF.out.2.2⟩, hid ⟨by show (without s.nx x.nm).length ≤ _; have := HWL.out; have := hL.out; omega, by show s.id ≤ _; have := hL.out; omega⟩, hid (own_zero HR6.out), hid (.inl fun b hb => Nat.le_trans HSZ.out (own_ge HR6.out b hb)), HB6⟩
   | false =>
    have HDR := hid hdr
    rw [hdr] at c5 x5 HK5 HB5 HB25 HBS5
    clear hdr
    go_wp2_with fail
    refine (rwithout_c B' s.nx.length k' s.nx x.nm _ HBS5.out HNXL.out).mono ?_
    rintro e w6 ⟨A6, c6, rfl, hr6, hb6⟩
    have HB6 := hid (HB25.out.trans (hb6.mono HB25.out.size))
    have HBW6 := hid (HB2.out.trans (HB6.out.mono HB2.out.size))
    have HR6 := hid hr6
    have HSZ := hid HB5.out.size
    have HK6 := hid (HK5.out.keep (hb6.block _ HK5.out.lt))
    have x5' : w6.cell? ⟨tb, 5, none⟩ = some (.bool false) := (HK6.out.cell 5).trans rfl
    rw [HTB.out]
    clear hb6 hr6 c0 c1 c2 c3 c4 c5 x0 x1 x2 x3 x4 x5
    rcases Nat.lt_or_ge la FR.length with hla | hla
    case inr =>
     have hle : la = FR.length := by have := hF.out; omega
     have HNONE := hid (HS1.out (HPLN.out.trans (plan_stop (HSNOC.out.trans (pl1_full (x := x.ch) HDR.out (by rw [hF.out.1, hle, List.drop_length]))))))
     have z1 : ((la : Int) == (FR.length : Int)) = true := by rw [hle]; simp
     clear hla
     subst hle
     go_wp2
     go_ret
     exact RCm.same HH.out HNONE.out HBW6.out
    have z1 : ((la : Int) == (FR.length : Int)) = false := by simp; omega
    have z2 : ¬ (la : Int) = (FR.length : Int) := by omega
    have HLA := hid hla
    have HFD := hid (List.drop_eq_getElem_cons hla)
    obtain ⟨fb, rfl, hfb, hfc⟩ := ni9_at (own_bel HFR0.out HB6.out) hla
    have HFB := hid hfb
    have HFC := hid hfc
    obtain ⟨f, hf⟩ : ∃ f, FR[la]'hla = f := ⟨_, rfl⟩
    rw [hf] at HFD HFC
    have HNEXT := hid (HSNOC.out.trans (pl1_lay (x := x.ch) HDR.out (hF.out.1.trans HFD.out)))
    have l1 : (0 : Int) ≤ (la : Int) := Int.natCast_nonneg la
    have l2 : (la : Int) < (FR.length : Int) := Int.ofNat_lt.2 hla
    clear hla hf hfb hfc
    go_wp2_with fail
    try rw [wid]
    clear x5'
    have hdr2 : Below w6.heap.size w6 w6.drew := (Below.refl _ _).drew
    have HB7 := hid (HB6.out.trans (hdr2.mono HB6.out.size))
    have HBW7 := hid (HBW6.out.trans (hdr2.mono HBW6.out.size))
    have HK7 := hid (HK6.out.keep (hdr2.block _ HK6.out.lt))
    have HFC7 : Hid (w6.drew.cell? ⟨fb, la, none⟩ = some (.int .i64 (f : Int))) := hid ((World.cell?_of_block (a := ⟨fb, la, none⟩) (hdr2.block fb HFB.out)).trans HFC.out)
    have HR7 := hid (own_bel HR6.out hdr2)
    have HS7 := hid (HSO.out.bel HBW7.out)
    obtain ⟨hcb, -, -⟩ := ce_at ((rsx_p gs ge gw gz L false B k).comp (tr_c ge d gw t)) HO1.out
    have hce := (ce_cells hcb).1
    have hcl := hcb.lt
    have HCE := hid hce
    have HCL := hid hcl
    have HCE7 : Hid (w6.drew.cell? ⟨gz, 0, none⟩ = some (.int .i64 (c.ver : Int))) := hid ((World.cell?_of_block (a := ⟨gz, 0, none⟩) (HBW7.out.block gz HCL.out)).trans HCE.out)
    have HWV : Hid (wrap64 ((c.ver : Int) + 1) = ((c.ver + 1 : Nat) : Int)) := hid (by have := HD.out; unfold wrap64; omega)
    have HNW : Hid (newB x.ch f s.id c.ver = ⟨x.nm, x.k, (f : Int), ⟨x.k, ((s.id + 1 : Nat) : Int), ((c.ver + 1 : Nat) : Int)⟩, (x.n : Int)⟩) := hid (by unfold newB; rw [show x.ch.body.length = x.n from HBL.out]; rfl)
    have HWL2 : Hid ((without s.nx x.nm).length ≤ 100000) := hid (Nat.le_trans HWL.out HNXL.out)
    clear hdr2 hce hcl HK6 HR6 HB6 HBW6 z1 z2
    refine wp_region_held_drew (S := fun wx => wx.cell? ⟨gs, 2, none⟩ = some (.pointer (some ⟨gz, 0, none⟩)) ∧ wx.cell? ⟨gz, 0, none⟩ = some (.int .i64 (c.ver : Int)) ∧ wx.cell? ⟨fb, la, none⟩ = some (.int .i64 (f : Int)) ∧ Blk wx tb 94 #[.string (str x.nm), .int .i64 x.k.t, .int .i64 x.k.c, .int .i64 x.k.e, .slice x.A x.n x.c, .bool false]) (by kernel_rfl) ⟨HS7.out.cells.2.2.1, HCE7.out, HFC7.out, HK7.out⟩ (fun HS => ?_)
    refine qT 0 ?vu0 ?yu0 HS ?ru0
    case yu0 => refine qI fun wS hSw => ?_; go_simp; try with_reducible rfl
    try simp only [Act.put, zA]
    refine qT 1 ?vu1 ?yu1 HS ?ru1
    case yu1 => refine qI fun wS hSw => ?_; go_simp; try with_reducible rfl
    try simp only [Act.put, zA]
    refine qT 2 ?vu2 ?yu2 HS ?ru2
    case yu2 =>
     refine qI fun wS hSw => ?_
     obtain ⟨g2, g3, g4, gb⟩ := hSw
     have y0 := (gb.cell 0).trans rfl
     go_simp
     try with_reducible rfl
    try simp only [Act.put, zA]
    refine qT 3 ?vu3 ?yu3 HS ?ru3
    case yu3 => refine qI fun wS hSw => ?_; go_simp; try with_reducible rfl
    try simp only [Act.put, zA]
    refine qT 4 ?vu4 ?yu4 HS ?ru4
    case yu4 =>
     refine qI fun wS hSw => ?_
     refine Eq.trans (exec_loadK (y := ⟨x.nm, x.k, x.A, x.n, x.c, x.body, false⟩) (.tmp 64) ?_ ?_ hSw.2.2.2) ?_
     all_goals rfl
    try simp only [Act.put, zA]
    refine qT 5 ?vu5 ?yu5 HS ?ru5
    case yu5 => refine qI fun wS hSw => ?_; go_simp; try with_reducible rfl
    try simp only [Act.put, zA]
    refine qT 6 ?vu6 ?yu6 HS ?ru6
    case yu6 => refine qI fun wS hSw => ?_; go_simp; try with_reducible rfl
    try simp only [Act.put, zA]
    refine qT 7 ?vu7 ?yu7 HS ?ru7
    case yu7 => refine qI fun wS hSw => ?_; go_simp; try with_reducible rfl
    try simp only [Act.put, zA]
    refine qT 8 ?vu8 ?yu8 HS ?ru8
    case yu8 =>
     refine qI fun wS hSw => ?_
     obtain ⟨g2, g3, g4, gb⟩ := hSw
     go_simp
     try with_reducible rfl
    try simp only [Act.put, zA]
    refine qT 9 ?vu9 ?yu9 HS ?ru9
    case yu9 => refine qI fun wS hSw => ?_; go_simp; try with_reducible rfl
    try simp only [Act.put, zA]
    refine qT 10 ?vu10 ?yu10 HS ?ru10
    case yu10 =>
     refine qI fun wS hSw => ?_
     refine Eq.trans (exec_loadK (y := ⟨x.nm, x.k, x.A, x.n, x.c, x.body, false⟩) (.tmp 70) ?_ ?_ hSw.2.2.2) ?_
     all_goals rfl
    try simp only [Act.put, zA]
    refine qT 11 ?vu11 ?yu11 HS ?ru11
    case yu11 => refine qI fun wS hSw => ?_; go_simp; try with_reducible rfl
    try simp only [Act.put, zA]
    refine qT 12 ?vu12 ?yu12 HS ?ru12
    case yu12 => refine qI fun wS hSw => ?_; go_simp; try with_reducible rfl
    try simp only [Act.put, zA]
    refine qT 13 ?vu13 ?yu13 HS ?ru13
    case yu13 => refine qI fun wS hSw => ?_; go_simp; try with_reducible rfl
    try simp only [Act.put, zA]
    refine qT 14 ?vu14 ?yu14 HS ?ru14
    case yu14 => refine qI fun wS hSw => ?_; go_simp; try with_reducible rfl
    try simp only [Act.put, zA]
    refine qT 15 ?vu15 ?yu15 HS ?ru15
    case yu15 =>
     refine qI fun wS hSw => ?_
     obtain ⟨g2, g3, g4, gb⟩ := hSw
     go_simp
     try with_reducible rfl
    try simp only [Act.put, zA]
    refine qT 16 ?vu16 ?yu16 HS ?ru16
    case yu16 => refine qI fun wS hSw => ?_; go_simp; try with_reducible rfl
    try simp only [Act.put, zA]
    refine qT 17 ?vu17 ?yu17 HS ?ru17
    case yu17 => refine qI fun wS hSw => ?_; go_simp; try with_reducible rfl
    try simp only [Act.put, zA]
    refine qT 18 ?vu18 ?yu18 HS ?ru18
    case yu18 =>
     refine qI fun wS hSw => ?_
     obtain ⟨g2, g3, g4, gb⟩ := hSw
     go_simp
     try with_reducible rfl
    try simp only [Act.put, zA]
    refine wpAnyH_take (i := 19) (oi := ?oiu19) (v := .int .i64 ((c.ver + 1 : Nat) : Int)) ?hiu19 (by kernel_rfl) (by kernel_rfl) (by kernel_rfl) ?hQu19 ?hyu19 HS ?restu19
    case hiu19 => simp only [zD, zE, zF]; exact rfl
    case hQu19 => exact fun _ _ _ h => h
    case hyu19 =>
     refine qI fun wS hSw => ?_
     go_simp
     have h9 := HD.out.2.2.2.2
     exact IntWalk.i64_in _ (by omega)
    try simp only [Act.put, zA]
    refine qT 20 ?vu20 ?yu20 HS ?ru20
    case yu20 =>
     refine qI fun wS hSw => ?_
     refine Eq.trans (exec_build 88 #[(0, .tmp 71), (1, .tmp 72), (2, .tmp 80)] ?_ #[(0, .agg #[.int .i64 x.k.t, .int .i64 x.k.c, .int .i64 x.k.e]), (1, .int .i64 ((s.id + 1 : Nat) : Int)), (2, .int .i64 ((c.ver + 1 : Nat) : Int))] ?_ _ (built_p9 x.k.t x.k.c x.k.e _ _)) ?_
     · rfl
     · simp only [List.map_toArray, List.map_cons, List.map_nil]; rfl
     · with_reducible rfl
    try simp only [Act.put, zA]
    refine qT 21 ?vu21 ?yu21 HS ?ru21
    case yu21 => refine qI fun wS hSw => ?_; go_simp; try with_reducible rfl
    try simp only [Act.put, zA]
    refine qT 22 ?vu22 ?yu22 HS ?ru22
    case yu22 =>
     refine qI fun wS hSw => ?_
     obtain ⟨g2, g3, g4, gb⟩ := hSw
     have y4 := (gb.cell 4).trans rfl
     go_simp
     try with_reducible rfl
    try simp only [Act.put, zA]
    refine qT 23 ?vu23 ?yu23 HS ?ru23
    case yu23 => refine qI fun wS hSw => ?_; go_simp; try with_reducible rfl
    try simp only [Act.put, zA]
    refine qT 24 ?vu24 ?yu24 HS ?ru24
    case yu24 =>
     refine qI fun wS hSw => ?_
     refine Eq.trans (exec_build 90 #[(0, .tmp 63), (1, .tmp 65), (2, .tmp 69), (3, .tmp 81), (4, .tmp 84)] ?_ #[(0, .string (str x.nm)), (1, .agg #[.int .i64 x.k.t, .int .i64 x.k.c, .int .i64 x.k.e]), (2, .int .i64 (f : Int)), (3, .agg #[.int .i64 x.k.t, .int .i64 x.k.c, .int .i64 x.k.e, .int .i64 ((s.id + 1 : Nat) : Int), .int .i64 ((c.ver + 1 : Nat) : Int)]), (4, .int .i64 (x.n : Int))] ?_ _ (built_b9 _ x.k _ _ _ _ _ _ _)) ?_
     · rfl
     · simp only [List.map_toArray, List.map_cons, List.map_nil]; rfl
     · with_reducible rfl
    try simp only [Act.put, zA]
    refine qR 25 fun K hK => ?_
    go_simp
    refine (rwith_c A6 (without s.nx x.nm).length c6 (without s.nx x.nm) ⟨x.nm, x.k, (f : Int), ⟨x.k, ((s.id + 1 : Nat) : Int), ((c.ver + 1 : Nat) : Int)⟩, (x.n : Int)⟩ w6.drew (BRow.sl HR7.out) HWL2.out).mono ?_
    rintro e w8 ⟨A8, c8, rfl, hr8, hb8⟩
    rw [← HNW.out] at hr8 ⊢
    have HB8 := hid (HB7.out.trans (hb8.mono HB7.out.size))
    have HBW8 := hid (HBW7.out.trans (hb8.mono HBW7.out.size))
    have HK8 := hid (HK7.out.keep (hb8.block _ HK7.out.lt))
    have HR8 := hid hr8
    have HSZ8 := hid HBW7.out.size
    have HS8 := hid (HSO.out.bel HBW8.out)
    have HFC8 : Hid (w8.cell? ⟨fb, la, none⟩ = some (.int .i64 (f : Int))) := hid ((World.cell?_of_block (a := ⟨fb, la, none⟩) (hb8.block fb (Nat.lt_of_lt_of_le HFB.out (by simp)))).trans HFC7.out)
    have HCE8 : Hid (w8.cell? ⟨gz, 0, none⟩ = some (.int .i64 (c.ver : Int))) := hid ((World.cell?_of_block (a := ⟨gz, 0, none⟩) (HBW8.out.block gz HCL.out)).trans HCE.out)
    clear hb8 hr8
    refine hK.out _ _ ⟨HS8.out.cells.2.2.1, HCE8.out, HFC8.out, HK8.out⟩ (fun HS => ?_)
    clear hK K
    try simp only [Act.put, zA]
    refine qT 26 ?vu26 ?yu26 HS ?ru26
    case yu26 => refine qI fun wS hSw => ?_; go_simp; try with_reducible rfl
    try simp only [Act.put, zA]
    refine qD ?_
    clear HS
    have HIL : Hid ((with_ (without s.nx x.nm) (newB x.ch f s.id c.ver)).length = (without s.nx x.nm).length + 1) := hid (with_len _ _)
    cases hdead : s.dead with
    | true =>
     have HDD : Hid ((s.dead || decide (x.ch.k ∈ t.G)) = true) := hid (by rw [hdead]; rfl)
     go_wp2_with (go_quiet (fail))
     have HBX := hid (HB8.out.trans (Joins.below_draws _ _ nq))
     have HRX := hid (own_bel HR8.out (Joins.below_draws _ w8 nq))
     clear hdead
     go_roundg (n - (j + 1))
     case measure => exact rs_meas hgk.out HJ.out
     case rel => exact ⟨⟨with_ (without s.nx x.nm) (newB x.ch f s.id c.ver), s.id + 1, FR.drop (la + 1), s.dead || decide (x.ch.k ∈ t.G), s.ws ++ [(newB x.ch f s.id c.ver, x.ch.body)]⟩, la + 1, j + 1, A8, c8, rfl, rfl, by first | rfl | rw [wla], by rw [HDD.out], by first | rfl | rw [wj], hid rfl, hid HJ.out, HNEXT, hid ⟨rfl, HLA.out, Nat.succ_le_succ hF.out.2.2⟩, hid ⟨by show (with_ (without s.nx x.nm) (newB x.ch f s.id c.ver)).length ≤ _; have := HIL.out; have := HWL.out; have := hL.out; omega, by show s.id + 1 ≤ _; have := hL.out; omega⟩, hid (own_zero HRX.out), hid (.inl fun b hb => Nat.le_trans HSZ8.out (own_ge HRX.out b hb)), HBX⟩
    | false =>
     go_wp2_with fail
     have hdr2 : Below w8.heap.size w8 w8.drew := (Below.refl _ _).drew
     have HB9 := hid (HB8.out.trans (hdr2.mono HB8.out.size))
     have HBW9 := hid (HBW8.out.trans (hdr2.mono HBW8.out.size))
     have HK9 := hid (HK8.out.keep (hdr2.block _ HK8.out.lt))
     have HS9 := hid (HSO.out.bel HBW9.out)
     have HR9 := hid (own_bel HR8.out hdr2)
     clear hdr2 HK8 HR8 HB8 HBW8
     refine wp_region_held_drew (S := fun wx => wx.cell? ⟨gs, 1, none⟩ = some (.pointer (some ⟨gw, 0, none⟩)) ∧ Blk wx tb 94 #[.string (str x.nm), .int .i64 x.k.t, .int .i64 x.k.c, .int .i64 x.k.e, .slice x.A x.n x.c, .bool false]) (by kernel_rfl) ⟨HS9.out.cells.2.1, HK9.out⟩ (fun HS => ?_)
     refine qT 0 ?vv0 ?yv0 HS ?rv0
     case yv0 => refine qI fun wS hSw => ?_; go_simp; try with_reducible rfl
     try simp only [Act.put, zA]
     refine qT 1 ?vv1 ?yv1 HS ?rv1
     case yv1 => refine qI fun wS hSw => ?_; go_simp; try with_reducible rfl
     try simp only [Act.put, zA]
     refine qT 2 ?vv2 ?yv2 HS ?rv2
     case yv2 => refine qI fun wS hSw => ?_; go_simp; try with_reducible rfl
     try simp only [Act.put, zA]
     refine qT 3 ?vv3 ?yv3 HS ?rv3
     case yv3 => refine qI fun wS hSw => ?_; go_simp; try with_reducible rfl
     try simp only [Act.put, zA]
     refine qT 4 ?vv4 ?yv4 HS ?rv4
     case yv4 => refine qI fun wS hSw => ?_; go_simp; try with_reducible rfl
     try simp only [Act.put, zA]
     refine qT 5 ?vv5 ?yv5 HS ?rv5
     case yv5 =>
      refine qI fun wS hSw => ?_
      obtain ⟨g1, gb⟩ := hSw
      go_simp
      try with_reducible rfl
     try simp only [Act.put, zA]
     refine qT 6 ?vv6 ?yv6 HS ?rv6
     case yv6 => refine qI fun wS hSw => ?_; go_simp; try with_reducible rfl
     try simp only [Act.put, zA]
     refine qT 7 ?vv7 ?yv7 HS ?rv7
     case yv7 =>
      refine qI fun wS hSw => ?_
      refine Eq.trans (exec_loadK (y := ⟨x.nm, x.k, x.A, x.n, x.c, x.body, false⟩) (.tmp 95) ?_ ?_ hSw.2) ?_
      all_goals rfl
     try simp only [Act.put, zA]
     refine qR 8 fun K hK => ?_
     rw [if_pos (by rfl)]
     go_simp
     refine (rgone9_on (C := fun P => ((((RDvO ge d).and P).and (RCeO gz c)).and (RStX gs ge gw gz L false B k))) ((rsx_p gs ge gw gz L false B k).comp (tr_v ge d gz c)) (HGO.out w8.drew HBW9.out) x.k (Nat.le_trans HD.out.2.2.2.1 (by decide))).mono ?_
     rintro e wA ⟨rfl, hbA⟩
     have HBA := hid (HB9.out.trans (hbA.mono HB9.out.size))
     have HBWA := hid (HBW9.out.trans (hbA.mono HBW9.out.size))
     have HKA := hid (HK9.out.keep (hbA.block _ HK9.out.lt))
     have HRA := hid (own_bel HR9.out hbA)
     have HSA := hid (HSO.out.bel HBWA.out)
     clear hbA
     refine hK.out _ _ ⟨HSA.out.cells.2.1, HKA.out⟩ (fun HS => ?_)
     clear hK K
     try simp only [Act.put, zA]
     refine qT 9 ?vv9 ?yv9 HS ?rv9
     case yv9 => refine qI fun wS hSw => ?_; go_simp; try with_reducible rfl
     try simp only [Act.put, zA]
     refine qT 10 ?vv10 ?yv10 HS ?rv10
     case yv10 => refine qI fun wS hSw => ?_; go_simp; try with_reducible rfl
     try simp only [Act.put, zA]
     refine qD ?_
     clear HS
     have HDD : Hid ((s.dead || decide (x.ch.k ∈ t.G)) = decide (x.k ∈ t.G)) := hid (by rw [hdead]; rfl)
     clear hdead
     go_wp2_with fail
     go_roundg (n - (j + 1))
     case measure => exact rs_meas hgk.out HJ.out
     case rel => exact ⟨⟨with_ (without s.nx x.nm) (newB x.ch f s.id c.ver), s.id + 1, FR.drop (la + 1), s.dead || decide (x.ch.k ∈ t.G), s.ws ++ [(newB x.ch f s.id c.ver, x.ch.body)]⟩, la + 1, j + 1, A8, c8, rfl, rfl, by first | rfl | rw [wla], by rw [HDD.out], by first | rfl | rw [wj], hid rfl, hid HJ.out, HNEXT, hid ⟨rfl, HLA.out, Nat.succ_le_succ hF.out.2.2⟩, hid ⟨by show (with_ (without s.nx x.nm) (newB x.ch f s.id c.ver)).length ≤ _; have := HIL.out; have := HWL.out; have := hL.out; omega, by show s.id + 1 ≤ _; have := hL.out; omega⟩, hid (own_zero HRA.out), hid (.inl fun b hb => Nat.le_trans HSZ8.out (own_ge HRA.out b hb)), HBA⟩
 have hjn : j = n := by have := hj.out; omega
 have HPF : Hid (plan t.G c.ver (l.map Hc.ch) ⟨L, t.L.length, FR, false, []⟩ = some s) := hid (by
  have := hP.out
  rwa [List.take_of_length_le (by rw [List.length_map, HLN.out, hjn]; exact nl _)] at this)
 have HPS := hid (HPLN.out.trans HPF.out)
 have HPI := hid (by
  have := PI.plan (hv := L.map fun b => (⟨b.nm, b.k, [], false⟩ : Ch)) (id0 := t.L.length) (ver := c.ver) (G := t.G) HFN.out HFL.out (l.map Hc.ch) [] _ s (PI.init_ (HR.out.2.1.imp fun e => e.2) (rgt_inj HR.out)) (by rw [List.nil_append]; exact HOK.out.2) HPF.out
  rw [List.nil_append] at this
  exact this)
 have HKW : Hid (∀ y ∈ l, y.k.wf) := hid (fun y hy => by
  obtain ⟨i, hi, rfl⟩ := List.getElem_of_mem hy
  obtain ⟨_, _, _, _, _, _, h6⟩ := HCH.out.el i hi
  exact h6.k)
 have HNW9 : Hid (∀ x ∈ s.nx, x.wf ∧ x.nm.length ≤ 40) := hid (HPI.out.wf_ (q := 40) (fun x hx => ⟨HWF.out x hx, (HR.out.1 x hx).1.2⟩) (fun x hx => by
  obtain ⟨y, hy, rfl⟩ := List.mem_map.1 hx
  have h1 := HOK.out.1 y hy
  exact ⟨HKW.out y hy, h1.1.2, Nat.le_trans h1.2.2 (by decide)⟩) (by decide) HFM.out (by rw [List.length_map, HLN.out]; have := HN.out; have := HD.out; omega) (by have := HD.out; omega))
 have HWS := hid (HPI.out.wsOf_ HOK.out.2)
 have HWLEN : Hid (s.ws.length ≤ n) := hid (by have := HPI.out.wl; rwa [List.length_map, HLN.out] at this)
 have HPK : Hid (∀ x ∈ s.nx, x.p.k = x.k) := hid (fun x hx => by
  rcases HPI.out.mem x hx with ⟨h1, _⟩ | ⟨tt, h1⟩
  · exact (HR.out.1 x h1).2.2.1
  · obtain ⟨i, hi⟩ := List.mem_iff_getElem?.1 h1
    obtain ⟨y, f, _, _, h3, _⟩ := HPI.out.ws i x tt hi
    rw [h3]; rfl)
 have HNXL : Hid (s.nx.length ≤ 20000) := hid (by have := hL.out; have := HLL.out; have := HN.out; omega)
 have HDL : Hid ((dirB s.nx).length ≤ 100000000) := hid (by
  have h1 := entsB_len s.nx 40 HNW9.out
  have h2 := nat_len_u64 (n := s.nx.length) (by have := HNXL.out; omega)
  have := HNXL.out
  unfold dirB
  rw [List.length_append]
  omega)
 have hrdir := rdir_c B' s.nx.length k' s.nx wq (BRow.sl hRow.out) (fun x hx => (HNW9.out x hx).1) (fun x hx => Nat.le_trans (HNW9.out x hx).2 (by decide)) (by have := HNXL.out; omega) HDL.out
 have HGF : Hid (F gs) := hid (by obtain ⟨_, _, _, ⟨_, _, _, h3⟩, _, h5⟩ := HH.out; exact (h5 gs).2 (.inr ((h3 gs).2 (.inl rfl))))
 subst hjn
 have j2 : ¬ (j : Int) < (j : Int) := fun e => absurd e (Int.lt_irrefl _)
 clear hge hj hgk hP hF hL HSE
 by_cases hbig : 1000 < s.nx.length
 · have z1 : decide ((1000 : Int) < (s.nx.length : Int)) = true := decide_eq_true (by omega)
   have z2 : decide (1000 < s.nx.length) = true := decide_eq_true hbig
   have HFI := hid (HS2.out s HPS.out (.inl hbig))
   clear hbig hrdir
   go_wp2
   go_ret
   exact RCm.same HH.out HFI.out HBQ.out
 have z1 : decide ((1000 : Int) < (s.nx.length : Int)) = false := decide_eq_false (by omega)
 have z2 : decide (1000 < s.nx.length) = false := decide_eq_false hbig
 have HBG := hid hbig
 clear hbig
 go_wp2_with fail
 refine hrdir.mono ?_
 intro e w8 hr8
 obtain ⟨A8, m8, c8, rfl, hm8, hc8, ho8, hB8, hb8⟩ := hr8.out
 have HM8 := hid hm8.out
 have HB8 := hid (HBQ.out.trans (hb8.mono HBQ.out.size))
 have HRow8 : Hid (BRow 90 w8 0 B' k' s.nx) := hid (own_bel hRow.out hb8)
 clear hr8 hm8 hc8 ho8 hB8 hb8 hrdir
 by_cases hbg2 : 65536 < m8
 · have y1 : decide ((65536 : Int) < (m8 : Int)) = true := decide_eq_true (by omega)
   have y2 : decide (65536 < m8) = true := decide_eq_true hbg2
   have HFI := hid (HS2.out s HPS.out (.inr (by rw [HM8.out]; exact hbg2)))
   clear hbg2
   go_wp2
   go_ret
   exact RCm.same HH.out HFI.out HB8.out
 have y1 : decide ((65536 : Int) < (m8 : Int)) = false := decide_eq_false (by omega)
 have y2 : decide (65536 < m8) = false := decide_eq_false hbg2
 have HFIT : Hid (¬ (1000 < s.nx.length ∨ 65536 < (dirB s.nx).length)) := hid (fun h => h.elim HBG.out fun h => hbg2 (by rw [← HM8.out]; exact h))
 clear hbg2
 cases hdead : s.dead with
 | true =>
  have HFI := hid (HS3.out s HPS.out HFIT.out hdead)
  clear hdead
  go_wp2
  go_ret
  exact RCm.same HH.out HFI.out HB8.out
 | false =>
 have HFIN := hid (HS4.out s HPS.out HFIT.out hdead)
 clear hdead HS1 HS2 HS3 HS4
 have hon8 := HO1.out.add ((TR.ok _ _ _ _ _ _).and (RStX.ok _ _ _ _ _ _ _ _)) HB8.out (Y := fun x => w.heap.size ≤ x ∧ B'.map (·.block) = some x) (fun x hx => ⟨hx.1, own_lt HRow8.out x hx.2⟩)
 obtain ⟨XN, hXN⟩ : ∃ XN : Nat → Prop, XN = fun x => (x < w.heap.size ∧ ¬ F x) ∨ (w.heap.size ≤ x ∧ B'.map (·.block) = some x) := ⟨_, rfl⟩
 rw [← hXN] at hon8
 have HON8 := hid hon8
 have HXN := hid hXN
 have HXO : Hid (∀ x, x < w.heap.size → ¬ F x → XN x) := hid (fun x h1 h2 => by rw [hXN]; exact .inl ⟨h1, h2⟩)
 have HROWS : Hid (∀ d' t' c' wy, On wz ((TR ge d' gw t' gz c').and (RStX gs ge gw gz L false B k)) wy XN → Stay XN w8 wy → BRow 90 wy 0 B' k' s.nx) := hid (fun d' t' c' wy hon hst => by
  rcases hBB.out with h1 | ⟨h1, h2, h3⟩
  · exact own_keep HRow8.out fun b hb => hst.2 b (by rw [hXN]; exact .inr ⟨h1 b hb, hb⟩)
  · rw [h1, h2, h3]; exact (rsx_at hon).row)
 have HCHS : Hid (∀ wy, Stay XN w8 wy → ChOn (fun b => ¬ F b) wy A j l) := hid (fun wy hst => HCH.out.keep (Nat.le_trans HB8.out.size hst.1) fun b hu hb => (hst.2 b (by rw [hXN]; exact .inl ⟨hb, hu⟩)).trans (HB8.out.block b hb))
 have HOLD : Hid (∀ wy, Stay XN w8 wy → w.heap.size ≤ wy.heap.size ∧ ∀ x, x < w.heap.size → ¬ F x → wy.heap[x]? = w.heap[x]?) := hid (fun wy hst => ⟨Nat.le_trans HB8.out.size hst.1, fun x h1 h2 => (hst.2 x (HXO.out x h1 h2)).trans (HB8.out.block x h1)⟩)
 have HPKW : Hid (∀ y ∈ s.nx, y.p.wf ∧ i64ok y.b) := hid (fun y hy => by
  obtain ⟨_, h2, h3, h4, h5, _⟩ := (HNW9.out y hy).1
  exact ⟨⟨by rw [HPK.out y hy]; exact h2, h4, h5⟩, h3⟩)
 have HGFX : Hid (∀ x, XN x → x ≠ gs) := hid (fun x hx e => by
  rw [hXN] at hx
  rcases hx with ⟨_, h2⟩ | ⟨h1, _⟩
  · exact h2 (e ▸ HGF.out)
  · rw [e] at h1; have := HSO.out.blk.lt; omega)
 have HUSE : Hid ((∀ b, B'.map (·.block) = some b → XN b ∧ ¬ (b < w.heap.size ∧ ¬ F b)) ∨ B' = B) := hid (by
  rcases hBB.out with h1 | ⟨h1, _, _⟩
  · exact .inl fun b hb => ⟨by rw [hXN]; exact .inr ⟨h1 b hb, hb⟩, fun h => by have := h1 b hb; omega⟩
  · exact .inr h1)
 have HNEB : Hid (∀ b, B'.map (·.block) = some b → b ≠ gs) := hid (fun b hb e => by
  rcases hBB.out with h1 | ⟨h1, h2, h3⟩
  · have := h1 b hb; rw [e] at this; have := HSO.out.blk.lt; omega
  · rw [h1] at hb; exact HSO.out.ne b hb e)
 have HSZW : Hid ((wsOf s.nx (l.map Hc.ch)).length ≤ 10000) := hid (by rw [HWS.out]; exact Nat.le_trans HWLEN.out HN.out.1)
 clear hon8 hXN hRow hBB
 go_wp2_with fail
 clear z1 z2 y1 y2
 go_loopg [112] j (fun kk iv wq => ∃ (i : Nat) (d' : St) (t' : Va), iv = .int .i64 (i : Int) ∧ Hid (kk = j - i) ∧ Hid (i ≤ j) ∧ Hid (wrs (dn9 s.nx (l.map Hc.ch) i) d t = (0, d', t')) ∧ Hid (On wz ((TR ge d' gw t' gz c).and (RStX gs ge gw gz L false B k)) wq XN) ∧ Hid (Stay XN w8 wq))
 case atStart => exact ⟨0, d, t, rfl, hid rfl, hid (Nat.zero_le _), hid rfl, HON8, hid ⟨nl _, fun _ _ => rfl⟩⟩
 case round =>
 obtain ⟨i, d', t', rfl, hgk, hi, hwr, hon, hst⟩ := hrel
 clear HON8
 rename World => wq
 rcases Nat.lt_or_ge i j with hlt | hge
 · have HI := hid hlt
   have hil : i < l.length := by rw [HLN.out]; exact hlt
   have hilm : i < (l.map Hc.ch).length := by rw [List.length_map]; exact hil
   have i1 : (0 : Int) ≤ (i : Int) := Int.natCast_nonneg i
   have i2 : (i : Int) < (j : Int) := Int.ofNat_lt.2 hlt
   have i3 : decide ((i : Int) < (j : Int)) = true := decide_eq_true i2
   have i4 : decide (i < j) = true := decide_eq_true hlt
   have wi : wrap64 ((i : Int) + 1) = ((i + 1 : Nat) : Int) := by have := HN.out; unfold wrap64; omega
   obtain ⟨_, _, -, -, -, -, hx0⟩ := HCH.out.el i hil
   have HX := hid hx0
   clear hx0
   obtain ⟨lb, off, rfl, hlb, hbl, hr0, hx0⟩ := (HCHS.out wq hst.out).at_ hil
   have HXO2 := hid (HOK.out.1 _ (List.getElem_mem hil))
   have HDS := hid (dn9_snoc s.nx hilm)
   have HPRE := hid (fun (k9 : Nat) (hk : k9 < s.nx.length) => dn9_pre s.nx hilm hk)
   have HLEN9 := hid (fun (k9 : Nat) => dn9_len s.nx hilm k9)
   have hmx : (l.map Hc.ch)[i]'hilm = (l[i]'hil).ch := List.getElem_map _
   rw [hmx] at HDS HPRE HLEN9
   obtain ⟨x, hx⟩ : ∃ x, l[i]'hil = x := ⟨_, rfl⟩
   rw [hx] at hr0 HX HXO2 HDS HPRE HLEN9
   clear hx hmx
   obtain ⟨c0, c1, c2, c3, c4, c5⟩ := range6 hr0
   have hb5 : Below wq.heap.size wq (wq.alloc (.cells #[.string (str x.nm), .int .i64 x.k.t, .int .i64 x.k.c, .int .i64 x.k.e, .slice x.A x.n x.c, .bool x.dr] 94)) := (Below.refl _ _).alloc (nl _) _
   have hk5 := Blk.new wq 94 #[.string (str x.nm), .int .i64 x.k.t, .int .i64 x.k.c, .int .i64 x.k.e, .slice x.A x.n x.c, .bool x.dr]
   have HBL : Hid (x.body.length = x.n) := hid HX.out.b.1
   have hon5 := hon.out.add ((TR.ok _ _ _ _ _ _).and (RStX.ok _ _ _ _ _ _ _ _)) hb5 (Y := fun y => y = wq.heap.size) (fun y hy => by subst hy; exact ⟨nl _, hk5.lt⟩)
   have HST5 := hid (hst.out.trans (hon.out.stay hb5))
   obtain ⟨x0, x1, x2, x3, x4, x5⟩ := hcB_cells (x := x) hk5
   obtain ⟨tb, htb⟩ : ∃ tb, wq.heap.size = tb := ⟨_, rfl⟩
   rw [htb] at hk5 hon5
   have HTB := hid htb
   have HK5 := hid hk5
   have HON5 := hid hon5
   clear hlt hil hilm hbl hr0 hx0 hb5 hk5 htb hlb hon5 hst hon
   go_wp2_with fail
   rw [HTB.out]
   clear c0 c1 c2 c3 c4 c5 x0 x1 x2 x3 x4 x5 HTB
   generalize wq.alloc (.cells #[.string (str x.nm), .int .i64 x.k.t, .int .i64 x.k.c, .int .i64 x.k.e, .slice x.A x.n x.c, .bool x.dr] 94) = w5 at *
   go_loopg [118] s.nx.length (fun k2 jv wy => ∃ (k9 : Nat) (d2 : St) (t2 : Va), jv = .int .i64 (k9 : Int) ∧ Hid (k2 = s.nx.length - k9) ∧ Hid (k9 ≤ s.nx.length) ∧ Hid (wrs (dn9 s.nx (l.map Hc.ch) i ++ pt9 s.nx x.ch k9) d t = (0, d2, t2)) ∧ Hid (On wz ((TR ge d2 gw t2 gz c).and (RStX gs ge gw gz L false B k)) wy (fun y => XN y ∨ y = tb)) ∧ Hid (Stay (fun y => XN y ∨ y = tb) w5 wy))
   case atStart => exact ⟨0, d', t', rfl, hid rfl, hid (Nat.zero_le _), hid (by have e : pt9 s.nx x.ch 0 = [] := rfl; rw [e, List.append_nil]; exact hwr.out), HON5, hid ⟨nl _, fun _ _ => rfl⟩⟩
   case round =>
   obtain ⟨k9, d2, t2, rfl, hgk2, hk9, hwr2, hon2, hst2⟩ := hrel
   clear HON5
   rename World => wy
   have HONX := hid (hon2.out.less (Y := XN) (fun y hy => .inl hy))
   have HSTX := hid (HST5.out.trans (hst2.out.less (Y := XN) (fun y hy => .inl hy)))
   have HKY := hid (HK5.out.keep (hst2.out.2 tb (.inr rfl)))
   rcases Nat.lt_or_ge k9 s.nx.length with hlt2 | hge2
   · have HK9 := hid hlt2
     have k1 : (0 : Int) ≤ (k9 : Int) := Int.natCast_nonneg k9
     have k2 : (k9 : Int) < (s.nx.length : Int) := Int.ofNat_lt.2 hlt2
     have k3 : decide ((k9 : Int) < (s.nx.length : Int)) = true := decide_eq_true k2
     have k4 : decide (k9 < s.nx.length) = true := decide_eq_true hlt2
     have wk : wrap64 ((k9 : Int) + 1) = ((k9 + 1 : Nat) : Int) := by have := HNXL.out; unfold wrap64; omega
     obtain ⟨rb, roff, hre, hrbl, hrr⟩ := (HROWS.out d2 t2 c wy HONX.out HSTX.out).sl.2 k9 hlt2
     have HPS9 := hid (pt9_snoc x.ch hlt2)
     have HPR9 := hid (HPRE.out k9 hlt2)
     have HYW := hid (HPKW.out _ (List.getElem_mem hlt2))
     obtain ⟨y, hy⟩ : ∃ y, s.nx[k9]'hlt2 = y := ⟨_, rfl⟩
     rw [hy] at hrr HPS9 HPR9 HYW
     clear hy
     subst hre
     obtain ⟨c0, c1, c2, c3, c4, c5, c6, c7, c8, c9, c10⟩ := range11 hrr
     have HBY := hid (Blk.new wy 90 #[.string (str y.nm), .int .i64 y.k.t, .int .i64 y.k.c, .int .i64 y.k.e, .int .i64 y.b, .int .i64 y.p.k.t, .int .i64 y.p.k.c, .int .i64 y.p.k.e, .int .i64 y.p.id, .int .i64 y.p.ver, .int .i64 y.sz])
     have hby : Below wy.heap.size wy (wy.alloc (.cells #[.string (str y.nm), .int .i64 y.k.t, .int .i64 y.k.c, .int .i64 y.k.e, .int .i64 y.b, .int .i64 y.p.k.t, .int .i64 y.p.k.c, .int .i64 y.p.k.e, .int .i64 y.p.id, .int .i64 y.p.ver, .int .i64 y.sz] 90)) := (Below.refl _ _).alloc (nl _) _
     have HON6 := hid (hon2.out.go ((TR.ok _ _ _ _ _ _).and (RStX.ok _ _ _ _ _ _ _ _)) hby)
     have HST6 := hid (hst2.out.trans (hon2.out.stay hby))
     have HON6U := hid (hon2.out.add ((TR.ok _ _ _ _ _ _).and (RStX.ok _ _ _ _ _ _ _ _)) hby (Y := fun z => z = wy.heap.size) (fun z hz => by subst hz; exact ⟨nl _, HBY.out.lt⟩))
     have HKX := hid (HKY.out.keep (hby.block _ HKY.out.lt))
     obtain ⟨y0, y1, y2, y3, y4, y5, y6, y7, y8, y9, y10⟩ := bbB_cells (x := y) HBY.out
     have x0 : (wy.alloc (.cells #[.string (str y.nm), .int .i64 y.k.t, .int .i64 y.k.c, .int .i64 y.k.e, .int .i64 y.b, .int .i64 y.p.k.t, .int .i64 y.p.k.c, .int .i64 y.p.k.e, .int .i64 y.p.id, .int .i64 y.p.ver, .int .i64 y.sz] 90)).cell? ⟨tb, 0, none⟩ = some (.string (str x.nm)) := (HKX.out.cell 0).trans rfl
     have xq : wy.cell? ⟨tb, 0, none⟩ = some (.string (str x.nm)) := (HKY.out.cell 0).trans rfl
     have s1 := str_list x.nm
     have s2 := str_list y.nm
     have HS2W := hid hst2.out.1
     clear hlt2 hrbl hrr hby hon2 hst2
     by_cases he : y.nm = x.nm
     · have d1 : (y.nm == x.nm) = true := by rw [he]; exact beq_self_eq_true _
       have d2' : ((str y.nm).toList == (str x.nm).toList) = true := by rw [he]; exact beq_self_eq_true _
       obtain ⟨rest, hrest⟩ := HPR9.out he
       have HW9 : Hid (wsOf s.nx (l.map Hc.ch) = (dn9 s.nx (l.map Hc.ch) i ++ pt9 s.nx x.ch (k9 + 1)) ++ rest) := hid (by rw [HPS9.out, if_pos (show y.nm = x.ch.nm from he), ← List.append_assoc]; exact hrest)
       have HNX9 : Hid (wrs (dn9 s.nx (l.map Hc.ch) i ++ pt9 s.nx x.ch (k9 + 1)) d t = (pwE d2 t2 y.b y.p x.body.length, pwD d2 t2 y.b y.p x.body.length, pwV d2 t2 y.b y.p x.body)) := hid (by
        rw [HPS9.out, if_pos (show y.nm = x.ch.nm from he), ← List.append_assoc]
        exact wrs_more hwr2.out y x.body)
       have HSZ2 : Hid (d2.W.length ≤ 40000 ∧ t2.L.length ≤ 310000 ∧ t2.G.length ≤ 400000) := hid (by
        have h1 := wrs_size (dn9 s.nx (l.map Hc.ch) i ++ pt9 s.nx x.ch k9) d t
        rw [hwr2.out, List.length_append] at h1
        have h2 := HLEN9.out k9
        have h3 := HSZW.out
        have h4 := HD.out
        obtain ⟨g1, g2, g3, g4⟩ := h1
        dsimp only at g1 g3 g4
        rw [g4]
        exact ⟨by omega, by omega, by omega⟩)
       clear he hrest
       go_wp2_with fail
       clear c0 c1 c2 c3 c4 c5 c6 c7 c8 c9 c10 y0 y1 y2 y3 y4 y5 y6 y7 y8 y9 y10 x0 xq d1 d2' s1 s2
       obtain ⟨ub, hub⟩ : ∃ ub, wy.heap.size = ub := ⟨_, rfl⟩
       rw [hub] at HBY HON6U ⊢
       have HUBG : Hid (w5.heap.size ≤ ub) := hid (by rw [← hub]; exact HS2W.out)
       generalize wy.alloc (.cells #[.string (str y.nm), .int .i64 y.k.t, .int .i64 y.k.c, .int .i64 y.k.e, .int .i64 y.b, .int .i64 y.p.k.t, .int .i64 y.p.k.c, .int .i64 y.p.k.e, .int .i64 y.p.id, .int .i64 y.p.ver, .int .i64 y.sz] 90) = w6 at *
       have hdr2 : Below w6.heap.size w6 w6.drew := (Below.refl _ _).drew
       have HON7 := hid (HON6U.out.go ((TR.ok _ _ _ _ _ _).and (RStX.ok _ _ _ _ _ _ _ _)) hdr2)
       have HST7 := hid (HST6.out.trans (HON6.out.stay hdr2))
       have HBY7 := hid (HBY.out.keep (hdr2.block _ HBY.out.lt))
       have HK7 := hid (HKX.out.keep (hdr2.block _ HKX.out.lt))
       have hst9 := HST5.out.trans (HST7.out.less (Y := XN) (fun y hy => .inl hy))
       have HBO7 : Hid (HcOk (fun b => ¬ F b) w6.drew x) := hid (HX.out.keep (HOLD.out _ hst9).1 (fun b hu hb => (HOLD.out _ hst9).2 b hb hu))
       clear hst9
       have HCV7 := hid (hc_body HBO7.out)
       clear hdr2 hub HBY HKX HON6 HST6
       refine wp_region_held_drew (S := fun wx => wx.cell? ⟨gs, 0, none⟩ = some (.pointer (some ⟨ge, 0, none⟩)) ∧ wx.cell? ⟨gs, 1, none⟩ = some (.pointer (some ⟨gw, 0, none⟩)) ∧ Blk wx ub 90 #[.string (str y.nm), .int .i64 y.k.t, .int .i64 y.k.c, .int .i64 y.k.e, .int .i64 y.b, .int .i64 y.p.k.t, .int .i64 y.p.k.c, .int .i64 y.p.k.e, .int .i64 y.p.id, .int .i64 y.p.ver, .int .i64 y.sz] ∧ Blk wx tb 94 #[.string (str x.nm), .int .i64 x.k.t, .int .i64 x.k.c, .int .i64 x.k.e, .slice x.A x.n x.c, .bool x.dr] ∧ (convert 51 9 (.slice x.A x.n x.c)).run Tryz.prog wx = .ok (.string (str x.body)) wx) (by kernel_rfl) ⟨(rsx_at HON7.out).cells.1, (rsx_at HON7.out).cells.2.1, HBY7.out, HK7.out, HCV7.out⟩ (fun HS => ?_)
       refine qT 0 ?vw0 ?yw0 HS ?rw0
       case yw0 => refine qI fun wS hSw => ?_; go_simp; try with_reducible rfl
       try simp only [Act.put, zA]
       refine qT 1 ?vw1 ?yw1 HS ?rw1
       case yw1 => refine qI fun wS hSw => ?_; go_simp; try with_reducible rfl
       try simp only [Act.put, zA]
       refine qT 2 ?vw2 ?yw2 HS ?rw2
       case yw2 => refine qI fun wS hSw => ?_; go_simp; try with_reducible rfl
       try simp only [Act.put, zA]
       refine qT 3 ?vw3 ?yw3 HS ?rw3
       case yw3 =>
        refine qI fun wS hSw => ?_
        obtain ⟨g0, g1, gu, gt, gcv⟩ := hSw
        go_simp
        try with_reducible rfl
       try simp only [Act.put, zA]
       refine qT 4 ?vw4 ?yw4 HS ?rw4
       case yw4 => refine qI fun wS hSw => ?_; go_simp; try with_reducible rfl
       try simp only [Act.put, zA]
       refine qT 5 ?vw5 ?yw5 HS ?rw5
       case yw5 => refine qI fun wS hSw => ?_; go_simp; try with_reducible rfl
       try simp only [Act.put, zA]
       refine qT 6 ?vw6 ?yw6 HS ?rw6
       case yw6 => refine qI fun wS hSw => ?_; go_simp; try with_reducible rfl
       try simp only [Act.put, zA]
       refine qT 7 ?vw7 ?yw7 HS ?rw7
       case yw7 =>
        refine qI fun wS hSw => ?_
        obtain ⟨g0, g1, gu, gt, gcv⟩ := hSw
        go_simp
        try with_reducible rfl
       try simp only [Act.put, zA]
       refine qT 8 ?vw8 ?yw8 HS ?rw8
       case yw8 => refine qI fun wS hSw => ?_; go_simp; try with_reducible rfl
       try simp only [Act.put, zA]
       refine qT 9 ?vw9 ?yw9 HS ?rw9
       case yw9 =>
        refine qI fun wS hSw => ?_
        obtain ⟨g0, g1, gu, gt, gcv⟩ := hSw
        have y4 := (gu.cell 4).trans rfl
        go_simp
        try with_reducible rfl
       try simp only [Act.put, zA]
       refine qT 10 ?vw10 ?yw10 HS ?rw10
       case yw10 => refine qI fun wS hSw => ?_; go_simp; try with_reducible rfl
       try simp only [Act.put, zA]
       refine qT 11 ?vw11 ?yw11 HS ?rw11
       case yw11 =>
        refine qI fun wS hSw => ?_
        refine Eq.trans (exec_loadP (y := y) (.tmp 137) ?_ ?_ hSw.2.2.1) ?_
        all_goals rfl
       try simp only [Act.put, zA]
       refine qT 12 ?vw12 ?yw12 HS ?rw12
       case yw12 => refine qI fun wS hSw => ?_; go_simp; try with_reducible rfl
       try simp only [Act.put, zA]
       refine qT 13 ?vw13 ?yw13 HS ?rw13
       case yw13 =>
        refine qI fun wS hSw => ?_
        obtain ⟨g0, g1, gu, gt, gcv⟩ := hSw
        have z4 := (gt.cell 4).trans rfl
        go_simp
        try with_reducible rfl
       try simp only [Act.put, zA]
       refine qT 14 ?vw14 ?yw14 HS ?rw14
       case yw14 =>
        refine qI fun wS hSw => ?_
        obtain ⟨g0, g1, gu, gt, gcv⟩ := hSw
        go_simp
        try with_reducible rfl
       try simp only [Act.put, zA]
       refine qR 15 fun K hK => ?_
       go_simp
       refine (rpwrite_on ((rsx_p gs ge gw gz L false B k).comp (tr_p gz c)) HON7.out y.p HYW.out.1 y.b HYW.out.2 x.body (by have := HSZ2.out; omega) (by have := HSZ2.out; omega) (by have := HSZ2.out; omega)).mono ?_
       rintro e wA ⟨rfl, honA, hstA⟩
       have hstU := hstA
       have hstA2 := HST7.out.trans (hstA.less (Y := fun z => XN z ∨ z = tb) (fun z hz => .inl hz))
       have honA2 : On wz ((TR ge (pwD d2 t2 y.b y.p x.body.length) gw (pwV d2 t2 y.b y.p x.body) gz c).and (RStX gs ge gw gz L false B k)) wA (fun z => (XN z ∨ z = tb) ∨ z = ub) := honA
       have HONA := hid (honA2.less (Y := fun z => XN z ∨ z = tb) (fun z hz => .inl hz))
       have HSTA := hid hstA2
       have hst9 := HST5.out.trans (hstA2.less (Y := XN) (fun z hz => .inl hz))
       have hboA : HcOk (fun b => ¬ F b) wA x := HX.out.keep (HOLD.out _ hst9).1 (fun b hu hb => (HOLD.out _ hst9).2 b hb hu)
       have hcvA := hc_body hboA
       obtain ⟨EW, hEW⟩ : ∃ EW, pwE d2 t2 y.b y.p x.body.length = EW := ⟨_, rfl⟩
       have HEW := hid hEW
       rw [hEW]
       clear hEW honA hstA2 hst9 hboA
       refine hK.out _ _ ⟨(rsx_at honA2).cells.1, (rsx_at honA2).cells.2.1, HBY7.out.keep (hstU.2 ub (.inr rfl)), HK7.out.keep (hstU.2 tb (.inl (.inr rfl))), hcvA⟩ (fun HS => ?_)
       clear hK K
       try simp only [Act.put, zA]
       refine qT 16 ?vw16 ?yw16 HS ?rw16
       case yw16 => refine qI fun wS hSw => ?_; go_simp; try with_reducible rfl
       try simp only [Act.put, zA]
       refine qD ?_
       clear HS
       by_cases hez : EW = 0
       · have z3 : (EW != 0) = false := by rw [hez]; simp
         have HNX0 : Hid (wrs (dn9 s.nx (l.map Hc.ch) i ++ pt9 s.nx x.ch (k9 + 1)) d t = (0, pwD d2 t2 y.b y.p x.body.length, pwV d2 t2 y.b y.p x.body)) := hid (by rw [HNX9.out, HEW.out, hez])
         clear hez
         go_wp2_with fail
         go_roundg (s.nx.length - (k9 + 1))
         case measure => exact rs_meas hgk2.out HK9.out
         case rel => exact ⟨k9 + 1, _, _, by first | rfl | rw [wk], hid rfl, hid HK9.out, HNX0, HONA, HSTA⟩
       · have z3 : (EW != 0) = true := by simpa using hez
         have HFX := hid ((HFIN.out.1 EW (pwD d2 t2 y.b y.p x.body.length) (pwV d2 t2 y.b y.p x.body) (by rw [← HWS.out, HW9.out, wrs_fail (by rw [HNX9.out]; show pwE d2 t2 y.b y.p x.body.length ≠ 0; rw [HEW.out]; exact hez), HNX9.out, HEW.out])) hez)
         have hon9 := HONA.out.less (Y := XN) (fun y hy => .inl hy)
         have hst9 := HST5.out.trans (HSTA.out.less (Y := XN) (fun y hy => .inl hy))
         have hsoA := rsx_at hon9
         have q4 : wA.cell? ⟨gs, 4, none⟩ = some (.bool false) := hsoA.cells.2.2.2.2
         have f4 : wA.frozen? ⟨gs, 4, none⟩ = false := hsoA.blk.frozen 4
         have hgr := grown_setCell wA gs 4 (.bool true)
         have HFON := hid (rsx_turn (dn' := true) (L' := L) (B' := B) (k' := k) (Y := fun x => x < w.heap.size ∧ ¬ F x) (TR.ok _ _ _ _ _ _) hon9 hgr (hsoA.blk.store 4 _) (own_keep hsoA.row fun b hb => hgr.block b (own_lt hsoA.row b hb) (fun e => by injection e with e; exact hsoA.ne b hb e)) hsoA.ne (fun x hx => HXO.out x hx.1 hx.2) (.inr rfl))
         have HFOL := hid (HOLD.out wA hst9)
         have HFSZ := hid hgr.size
         have HFBK : Hid (∀ x, x < w.heap.size → ¬ F x → (wA.setCell ⟨gs, 4, none⟩ (.bool true)).heap[x]? = w.heap[x]?) := hid (fun x h1 h2 => (hgr.block x (Nat.lt_of_lt_of_le h1 HFOL.out.1) (fun e => by injection e with e; exact h2 (e ▸ HGF.out))).trans (HFOL.out.2 x h1 h2))
         clear hez hon9 hst9 hsoA hgr
         go_wp2
         go_ret
         exact RCm.on HFX.out HFON.out HZ.out (Nat.le_trans HFOL.out.1 HFSZ.out) HFBK.out
     · have d1 : (y.nm == x.nm) = false := beq_eq_false_iff_ne.2 he
       have d2' : ((str y.nm).toList == (str x.nm).toList) = false := str_ne he
       have HNX0 : Hid (wrs (dn9 s.nx (l.map Hc.ch) i ++ pt9 s.nx x.ch (k9 + 1)) d t = (0, d2, t2)) := hid (by rw [HPS9.out, if_neg (show ¬ y.nm = x.ch.nm from he), List.append_nil]; exact hwr2.out)
       clear he
       go_wp2_with fail
       go_roundg (s.nx.length - (k9 + 1))
       case measure => exact rs_meas hgk2.out HK9.out
       case rel => exact ⟨k9 + 1, d2, t2, by first | rfl | rw [wk], hid rfl, hid HK9.out, HNX0, HON6, HST6⟩
   have hkn : k9 = s.nx.length := by have := hk9.out; omega
   have HNXT : Hid (wrs (dn9 s.nx (l.map Hc.ch) (i + 1)) d t = (0, d2, t2)) := hid (by rw [HDS.out, ← hkn]; exact hwr2.out)
   rw [hkn]
   have k2 : ¬ (s.nx.length : Int) < (s.nx.length : Int) := fun e => absurd e (Int.lt_irrefl _)
   clear hge2 hk9 hgk2 hkn
   go_wp2_with fail
   go_roundg (j - (i + 1))
   case measure => exact rs_meas hgk.out HI.out
   case rel => exact ⟨i + 1, d2, t2, by first | rfl | rw [wi], hid rfl, hid HI.out, HNXT, HONX, HSTX⟩
 have hij : i = j := by have := hi.out; omega
 subst hij
 have i2 : ¬ (i : Int) < (i : Int) := fun e => absurd e (Int.lt_irrefl _)
 have HWALL : Hid (wrs s.ws d t = (0, d', t')) := hid (by
  have h1 := hwr.out
  have e : i = (l.map Hc.ch).length := by rw [List.length_map, HLN.out]
  rw [e, dn9_all, HWS.out] at h1
  exact h1)
 have HFI2 := hid (HFIN.out.2 d' t' HWALL.out)
 have HSZ2 : Hid (d'.W.length ≤ 40000 ∧ t'.L.length ≤ 310000 ∧ t'.G.length ≤ 400000) := hid (by
  have h1 := wrs_size s.ws d t
  rw [HWALL.out] at h1
  have h2 := HWLEN.out
  have h3 := HN.out
  have h4 := HD.out
  obtain ⟨g1, g2, g3, g4⟩ := h1
  dsimp only at g1 g3 g4
  rw [g4]
  exact ⟨by omega, by omega, by omega⟩)
 have hrowq := HROWS.out d' t' c wq hon.out hst.out
 have HRWQ := hid hrowq
 clear hge hi hgk hrowq hwr
 go_wp2_with fail
 have hdr2 : Below wq.heap.size wq wq.drew := (Below.refl _ _).drew
 have HON7 := hid (hon.out.go ((TR.ok _ _ _ _ _ _).and (RStX.ok _ _ _ _ _ _ _ _)) hdr2)
 have HST7 := hid (hst.out.trans (hon.out.stay hdr2))
 have HRW7 := hid (own_bel HRWQ.out hdr2)
 have HSO7 := hid (rsx_at HON7.out)
 clear hdr2
 refine wp_region_held_drew (S := fun wx => wx.cell? ⟨gs, 0, none⟩ = some (.pointer (some ⟨ge, 0, none⟩)) ∧ wx.cell? ⟨gs, 1, none⟩ = some (.pointer (some ⟨gw, 0, none⟩)) ∧ wx.cell? ⟨gs, 2, none⟩ = some (.pointer (some ⟨gz, 0, none⟩))) (by kernel_rfl) ⟨HSO7.out.cells.1, HSO7.out.cells.2.1, HSO7.out.cells.2.2.1⟩ (fun HS => ?_)
 refine qT 0 ?vx0 ?yx0 HS ?rx0
 case yx0 => refine qI fun wS hSw => ?_; go_simp; try with_reducible rfl
 try simp only [Act.put, zA]
 refine qT 1 ?vx1 ?yx1 HS ?rx1
 case yx1 => refine qI fun wS hSw => ?_; go_simp; try with_reducible rfl
 try simp only [Act.put, zA]
 refine qT 2 ?vx2 ?yx2 HS ?rx2
 case yx2 => refine qI fun wS hSw => ?_; go_simp; try with_reducible rfl
 try simp only [Act.put, zA]
 refine qT 3 ?vx3 ?yx3 HS ?rx3
 case yx3 =>
  refine qI fun wS hSw => ?_
  obtain ⟨g0, g1, g2⟩ := hSw
  go_simp
  try with_reducible rfl
 try simp only [Act.put, zA]
 refine qT 4 ?vx4 ?yx4 HS ?rx4
 case yx4 => refine qI fun wS hSw => ?_; go_simp; try with_reducible rfl
 try simp only [Act.put, zA]
 refine qT 5 ?vx5 ?yx5 HS ?rx5
 case yx5 => refine qI fun wS hSw => ?_; go_simp; try with_reducible rfl
 try simp only [Act.put, zA]
 refine qT 6 ?vx6 ?yx6 HS ?rx6
 case yx6 => refine qI fun wS hSw => ?_; go_simp; try with_reducible rfl
 try simp only [Act.put, zA]
 refine qT 7 ?vx7 ?yx7 HS ?rx7
 case yx7 =>
  refine qI fun wS hSw => ?_
  obtain ⟨g0, g1, g2⟩ := hSw
  go_simp
  try with_reducible rfl
 try simp only [Act.put, zA]
 refine qT 8 ?vx8 ?yx8 HS ?rx8
 case yx8 => refine qI fun wS hSw => ?_; go_simp; try with_reducible rfl
 try simp only [Act.put, zA]
 refine qT 9 ?vx9 ?yx9 HS ?rx9
 case yx9 => refine qI fun wS hSw => ?_; go_simp; try with_reducible rfl
 try simp only [Act.put, zA]
 refine qT 10 ?vx10 ?yx10 HS ?rx10
 case yx10 => refine qI fun wS hSw => ?_; go_simp; try with_reducible rfl
 try simp only [Act.put, zA]
 refine qT 11 ?vx11 ?yx11 HS ?rx11
 case yx11 =>
  refine qI fun wS hSw => ?_
  obtain ⟨g0, g1, g2⟩ := hSw
  go_simp
  try with_reducible rfl
 try simp only [Act.put, zA]
 refine qT 12 ?vx12 ?yx12 HS ?rx12
 case yx12 => refine qI fun wS hSw => ?_; go_simp; try with_reducible rfl
 try simp only [Act.put, zA]
 refine qR 13 fun K hK => ?_
 go_simp
 refine (rdir_c B' s.nx.length k' s.nx wq.drew (BRow.sl HRW7.out) (fun x hx => (HNW9.out x hx).1) (fun x hx => Nat.le_trans (HNW9.out x hx).2 (by decide)) (by have := HNXL.out; omega) HDL.out).mono ?_
 intro e w9 hr9
 obtain ⟨A9, m9, c9, rfl, hm9, hc9, ho9, hB9, hb9⟩ := hr9.out
 have HON9 := hid (HON7.out.go ((TR.ok _ _ _ _ _ _).and (RStX.ok _ _ _ _ _ _ _ _)) hb9)
 have HST9 := hid (HST7.out.trans (HON7.out.stay hb9))
 have HSO9 := hid (rsx_at HON9.out)
 have hcv := run_str (P := Tryz.prog) (c := c9) 51 9 5 Tryz.underlying51 Tryz.underlying5 Tryz.underlying9 hB9
 clear hr9 hm9 hc9 ho9 hB9 hb9
 refine hK.out _ _ ⟨HSO9.out.cells.1, HSO9.out.cells.2.1, HSO9.out.cells.2.2.1⟩ (fun HS => ?_)
 clear hK K
 try simp only [Act.put, zA]
 refine qR 14 fun K hK => ?_
 go_simp
 refine hK.out _ _ ⟨HSO9.out.cells.1, HSO9.out.cells.2.1, HSO9.out.cells.2.2.1⟩ (fun HS => ?_)
 clear hK K
 try simp only [Act.put, zA]
 refine qR 15 fun K hK => ?_
 go_simp
 refine (rput_on (rsx_p gs ge gw gz L false B k) HON9.out (dirB s.nx) (by have := HSZ2.out; omega) (by have := HSZ2.out; omega) (by have := HSZ2.out; omega) (by have := HD.out; omega)).mono ?_
 rintro e wC ⟨rfl, honC, hstC⟩
 have HONC := hid honC
 have HSTC := hid (HST9.out.trans hstC)
 have HROWS2 := hid (HROWS.out _ _ _ wC honC HSTC.out)
 have HSOC := hid (rsx_at honC)
 obtain ⟨EP, hEP⟩ : ∃ EP, ptE d' t' c (dirB s.nx).length = EP := ⟨_, rfl⟩
 have HEP := hid hEP
 rw [hEP]
 clear hEP honC hstC
 refine hK.out _ _ ⟨HSOC.out.cells.1, HSOC.out.cells.2.1, HSOC.out.cells.2.2.1⟩ (fun HS => ?_)
 clear hK K
 try simp only [Act.put, zA]
 refine qT 16 ?vx16 ?yx16 HS ?rx16
 case yx16 => refine qI fun wS hSw => ?_; go_simp; try with_reducible rfl
 try simp only [Act.put, zA]
 refine qD ?_
 clear HS
 by_cases hez : EP = 0
 · have z3 : (EP != 0) = false := by rw [hez]; simp
   have HFX := hid (HFI2.out.2 (HEP.out.trans hez))
   have hsoA := rsx_at HONC.out
   have q3 : wC.cell? ⟨gs, 3, none⟩ = some (.slice B L.length k) := hsoA.cells.2.2.2.1
   have f3 : wC.frozen? ⟨gs, 3, none⟩ = false := hsoA.blk.frozen 3
   have hgr := grown_setCell wC gs 3 (.slice B' s.nx.length k')
   have hrowC := HROWS2.out
   have HFON := hid (rsx_turn (dn' := false) (L' := s.nx) (B' := B') (k' := k') (Y := fun x => x < w.heap.size ∧ ¬ F x) (TR.ok _ _ _ _ _ _) HONC.out hgr (hsoA.blk.store 3 _) (own_keep hrowC fun b hb => hgr.block b (own_lt hrowC b hb) (fun e => by injection e with e; exact HNEB.out b hb e)) HNEB.out (fun x hx => HXO.out x hx.1 hx.2) HUSE.out)
   have HFOL := hid (HOLD.out wC HSTC.out)
   have HFSZ := hid hgr.size
   have HFBK : Hid (∀ x, x < w.heap.size → ¬ F x → (wC.setCell ⟨gs, 3, none⟩ (.slice B' s.nx.length k')).heap[x]? = w.heap[x]?) := hid (fun x h1 h2 => (hgr.block x (Nat.lt_of_lt_of_le h1 HFOL.out.1) (fun e => by injection e with e; exact h2 (e ▸ HGF.out))).trans (HFOL.out.2 x h1 h2))
   clear hez hsoA hgr hrowC
   go_wp2
   go_ret
   exact RCm.on HFX.out HFON.out HZ.out (Nat.le_trans HFOL.out.1 HFSZ.out) HFBK.out
 · have z3 : (EP != 0) = true := by simpa using hez
   have HFX := hid (HFI2.out.1 (by rw [HEP.out]; exact hez))
   rw [HEP.out] at HFX
   have hsoA := rsx_at HONC.out
   have q4 : wC.cell? ⟨gs, 4, none⟩ = some (.bool false) := hsoA.cells.2.2.2.2
   have f4 : wC.frozen? ⟨gs, 4, none⟩ = false := hsoA.blk.frozen 4
   have hgr := grown_setCell wC gs 4 (.bool true)
   have HFON := hid (rsx_turn (dn' := true) (L' := L) (B' := B) (k' := k) (Y := fun x => x < w.heap.size ∧ ¬ F x) (TR.ok _ _ _ _ _ _) HONC.out hgr (hsoA.blk.store 4 _) (own_keep hsoA.row fun b hb => hgr.block b (own_lt hsoA.row b hb) (fun e => by injection e with e; exact hsoA.ne b hb e)) hsoA.ne (fun x hx => HXO.out x hx.1 hx.2) (.inr rfl))
   have HFOL := hid (HOLD.out wC HSTC.out)
   have HFSZ := hid hgr.size
   have HFBK : Hid (∀ x, x < w.heap.size → ¬ F x → (wC.setCell ⟨gs, 4, none⟩ (.bool true)).heap[x]? = w.heap[x]?) := hid (fun x h1 h2 => (hgr.block x (Nat.lt_of_lt_of_le h1 HFOL.out.1) (fun e => by injection e with e; exact h2 (e ▸ HGF.out))).trans (HFOL.out.2 x h1 h2))
   clear hez hsoA hgr
   go_wp2
   go_ret
   exact RCm.on HFX.out HFON.out HZ.out (Nat.le_trans HFOL.out.1 HFSZ.out) HFBK.out
end Go.Proofs.YtolaojkcofbkhaaGreat
