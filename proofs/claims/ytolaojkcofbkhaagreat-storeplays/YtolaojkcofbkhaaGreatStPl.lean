import Derived.Test.YtolaojkcofbkhaaGreatStGl
namespace Go.Proofs.YtolaojkcofbkhaaGreat
set_option maxRecDepth 100000
set_option maxHeartbeats 8000000
open Go.RowKit
structure Fo (s : Sp) (n : Nat) (F : List Nat) : Prop where
 len : s.T.length = n
 r : s.r = 2
 fr : ∀ i : Nat, s.T[i]? = some false ↔ i ∈ F
 ri : F.Pairwise (· < ·)
theorem Rm.fo {s : Sp} {n : Nat} {L : List Bb} (h : Rm s n L) : Fo s n (frs n L) := by
 refine ⟨h.len, h.r, fun i => ?_, frs_rise n L⟩
 rw [frs_mem]
 constructor
 · intro hf
   have hi : i < n := by rw [← h.len]; exact Sp.lt_of hf
   have := h.tk i hi
   rw [hf] at this
   have hn : ¬ (i < 2 ∨ ∃ x ∈ L, x.b = (i : Int)) := fun e => by have := this.2 e; cases this
   exact ⟨⟨by omega, hi⟩, fun x hx e => hn (.inr ⟨x, hx, e⟩)⟩
 · rintro ⟨⟨h2, hi⟩, hP⟩
   exact h.fr h2 hi hP
theorem Fo.none_ {s : Sp} {n : Nat} (h : Fo s n []) : s.any = false := by
 have : ∀ i, i < s.T.length → s.T[i]? = some true := fun i hi => by
  have h1 := h.fr i
  rw [List.getElem?_eq_getElem hi] at h1 ⊢
  cases hb : s.T[i] with
  | true => rfl
  | false => rw [hb] at h1; exact absurd (h1.1 rfl) (by simp)
 unfold Sp.any Sp.least
 rw [idx_none this]
 simp
theorem Fo.some_ {s : Sp} {n f : Nat} {r : List Nat} (h : Fo s n (f :: r)) : s.any = true ∧ s.takeN = f ∧ Fo s.take n r ∧ f < n := by
 have hf : s.T[f]? = some false := (h.fr f).2 (by simp)
 have hlt : f < s.T.length := Sp.lt_of hf
 have hri := List.pairwise_cons.1 h.ri
 have hl : s.least = f := idx_of (fun i hi => by
  have hi2 : i < s.T.length := by omega
  have h1 := h.fr i
  rw [List.getElem?_eq_getElem hi2] at h1 ⊢
  cases hb : s.T[i] with
  | true => rfl
  | false =>
   rw [hb] at h1
   have := h1.1 rfl
   rw [List.mem_cons] at this
   rcases this with e | e
   · omega
   · have := hri.1 i e; omega) hf
 have ha : s.any = true := by unfold Sp.any; rw [hl]; exact decide_eq_true hlt
 refine ⟨ha, by unfold Sp.takeN; rw [ha, hl]; rfl, ⟨by rw [Sp.take_len]; exact h.len, h.r, fun i => ?_, hri.2⟩, by rw [← h.len]; exact hlt⟩
 show (s.T.set s.least true)[i]? = _ ↔ _
 rw [hl, List.getElem?_set]
 by_cases e : f = i
 · subst e
   rw [if_pos rfl, if_pos hlt]
   exact ⟨fun e => (by cases e), fun e => by have := hri.1 f e; omega⟩
 · rw [if_neg e, h.fr, List.mem_cons]
   exact ⟨fun a => a.resolve_left fun a => e a.symm, .inr⟩
structure Gv (s : Sp) (n : Nat) (L : List Bb) (W : List Nat) (N : List (List UInt8)) : Prop where
 len : s.T.length = n
 r : s.r = 2
 tk : ∀ i : Nat, i < n → (s.T[i]? = some true ↔ (i < 2 ∨ (∃ x ∈ L, x.b = (i : Int) ∧ x.nm ∉ N) ∨ i ∈ W))
theorem Fo.gv {s : Sp} {n : Nat} {L : List Bb} {W fr : List Nat} (h : Fo s n fr) (he : W ++ fr = frs n L) : Gv s n L W [] := by
 refine ⟨h.len, h.r, fun i hi => ?_⟩
 have hl : i < s.T.length := by rw [h.len]; exact hi
 have h1 := h.fr i
 have hm : i ∈ frs n L ↔ i ∈ W ∨ i ∈ fr := by rw [← he, List.mem_append]
 have hnd : i ∈ W → i ∉ fr := by
  have := frs_nodup n L
  rw [← he, List.nodup_append] at this
  exact fun a b => this.2.2 i a i b rfl
 rw [frs_mem] at hm
 have h2 : s.T[i]? = some true ↔ i ∉ fr := by
  rw [List.getElem?_eq_getElem hl] at h1 ⊢
  cases hb : s.T[i] with
  | true => rw [hb] at h1; exact ⟨fun _ e => (nomatch (h1.2 e)), fun _ => rfl⟩
  | false => rw [hb] at h1; exact ⟨fun e => (by cases e), fun e => absurd (h1.1 rfl) e⟩
 rw [h2]
 constructor
 · intro hn
   by_cases hw : i ∈ W
   · exact .inr (.inr hw)
   · by_cases h3 : i < 2
     · exact .inl h3
     · refine .inr (.inl ?_)
       refine Classical.byContradiction fun h4 => ?_
       refine (hm.1 ⟨⟨by omega, hi⟩, fun x hx e => h4 ⟨x, hx, e, by simp⟩⟩).elim hw hn
 · rintro (h3 | ⟨x, hx, h4, _⟩ | h5)
   · intro e; have := hm.2 (.inr e); omega
   · intro e; exact (hm.2 (.inr e)).2 x hx h4
   · exact hnd h5
theorem Sp.give_at {s : Sp} {j : Nat} (hr : s.r ≤ j) (i : Nat) : (s.give (j : Int)).T[i]? = some true ↔ i ≠ j ∧ s.T[i]? = some true := by
 unfold Sp.give
 cases hg : s.gv (j : Int) with
 | true =>
  rw [if_pos rfl]
  show (s.T.set (j : Int).toNat false)[i]? = _ ↔ _
  rw [Int.toNat_natCast, List.getElem?_set]
  by_cases e : j = i
  · subst e
    rw [if_pos rfl]
    split <;> simp
  · rw [if_neg e]
    exact ⟨fun h => ⟨fun h2 => e h2.symm, h⟩, fun h => h.2⟩
 | false =>
  rw [if_neg (by simp)]
  refine ⟨fun h => ⟨fun e => ?_, h⟩, fun h => h.2⟩
  subst e
  have := (s.gv_iff (i : Int)).2 ⟨i, rfl, h, hr⟩
  rw [hg] at this
  cases this
theorem Gv.step {s : Sp} {n : Nat} {L : List Bb} {W : List Nat} {N : List (List UInt8)} (h : Gv s n L W N) (hr : L.Pairwise risen) (hi : ∀ x ∈ L, ∀ y ∈ L, x.b = y.b → x = y) (hb : ∀ x ∈ L, 2 ≤ x.b ∧ x.b < (n : Int)) (hW : ∀ f ∈ W, ∀ x ∈ L, x.b ≠ (f : Int)) (nm : List UInt8) :
 (isB L nm = true → Gv (s.give (getB L nm).b) n L W (N ++ [nm])) ∧ (isB L nm = false → Gv s n L W (N ++ [nm])) := by
 unfold isB getB
 cases hf : fnd L nm with
 | none =>
  refine ⟨fun e => (by cases e), fun _ => ⟨h.len, h.r, fun i hi2 => ?_⟩⟩
  rw [h.tk i hi2]
  have hno : ∀ x ∈ L, x.nm ≠ nm := fun x hx e => fnd_none.1 hf (by rw [← e]; exact List.mem_map_of_mem hx)
  refine or_congr Iff.rfl (or_congr ⟨?_, ?_⟩ Iff.rfl)
  · rintro ⟨x, a, b, c⟩
    exact ⟨x, a, b, by rw [List.mem_append, List.mem_singleton]; exact fun e => e.elim c (hno x a)⟩
  · rintro ⟨x, a, b, c⟩
    exact ⟨x, a, b, fun e => c (List.mem_append_left _ e)⟩
 | some y =>
  obtain ⟨hy, hyn⟩ := fnd_some hf
  refine ⟨fun _ => ?_, fun e => by cases e⟩
  show Gv (s.give y.b) n L W (N ++ [nm])
  obtain ⟨h2, h3⟩ := hb y hy
  obtain ⟨j, hj⟩ : ∃ j : Nat, y.b = (j : Int) := ⟨y.b.toNat, by omega⟩
  rw [hj] at h2 h3 ⊢
  refine ⟨by rw [Sp.give_len]; exact h.len, by rw [Sp.give_r]; exact h.r, fun i hi2 => ?_⟩
  rw [Sp.give_at (by rw [h.r]; omega), h.tk i hi2]
  constructor
  · rintro ⟨hij, a | ⟨x, a, b, c⟩ | a⟩
    · exact .inl a
    · refine .inr (.inl ⟨x, a, b, ?_⟩)
      rw [List.mem_append, List.mem_singleton]
      rintro (e | e)
      · exact c e
      · have : x = y := risen_ne hr a hy (e.trans hyn.symm)
        subst this
        omega
    · exact .inr (.inr a)
  · rintro (a | ⟨x, a, b, c⟩ | a)
    · exact ⟨by omega, .inl a⟩
    · refine ⟨fun e => ?_, .inr (.inl ⟨x, a, b, fun e => c (List.mem_append_left _ e)⟩)⟩
      have : x = y := hi x a y hy (by rw [b, hj, e])
      subst this
      exact c (by rw [List.mem_append, List.mem_singleton]; exact .inr hyn)
    · exact ⟨fun e => hW i a y hy (by rw [hj, e]), .inr (.inr a)⟩
theorem PI.rm {L : List Bb} {F : List Nat} {id0 ver n : Nat} {G : List Ky} {hv l : List Ch} {p : Pl} {s : Sp} (h : PI L F id0 ver G hv l p) (hg : Gv s n L (p.ws.map fun w => w.1.b.toNat) (l.map Ch.nm)) : Rm s n p.nx := by
 refine ⟨hg.len, hg.r, fun i hi => ?_⟩
 rw [hg.tk i hi]
 have hwb : ∀ b t, (b, t) ∈ p.ws → b.b = (b.b.toNat : Int) := by
  intro b t hb
  obtain ⟨j, hj⟩ := List.mem_iff_getElem?.1 hb
  obtain ⟨y, f, _, _, h2, _⟩ := h.ws j b t hj
  rw [h2]
  show (f : Int) = ((f : Int).toNat : Int)
  omega
 refine or_congr Iff.rfl ⟨?_, ?_⟩
 · rintro (⟨x, a, b, c⟩ | a)
   · exact ⟨x, h.old x a c, b⟩
   · obtain ⟨⟨b, t⟩, h1, h2⟩ := List.mem_map.1 a
     exact ⟨b, h.new b t h1, (hwb b t h1).trans (by rw [← h2])⟩
 · rintro ⟨x, a, b⟩
   rcases h.mem x a with ⟨h1, h2⟩ | ⟨t, h1⟩
   · exact .inl ⟨x, h1, b, h2⟩
   · exact .inr (List.mem_map.2 ⟨(x, t), h1, by show x.b.toNat = i; rw [b]; omega⟩)
theorem plan_app (G : List Ky) (ver : Nat) : ∀ (a b : List Ch) (s : Pl), plan G ver (a ++ b) s = (plan G ver a s).bind (plan G ver b)
 | [], b, s => rfl
 | x :: a, b, s => by
  rw [List.cons_append, plan, plan]
  cases h : pl1 G ver s x with
  | none => rfl
  | some p => exact plan_app G ver a b p
theorem plan_snoc (G : List Ky) (ver : Nat) (a : List Ch) (x : Ch) (s : Pl) : plan G ver (a ++ [x]) s = (plan G ver a s).bind fun p => pl1 G ver p x := by
 rw [plan_app]
 cases plan G ver a s with
 | none => rfl
 | some p =>
  show (pl1 G ver p x).bind (plan G ver []) = pl1 G ver p x
  cases pl1 G ver p x <;> rfl
theorem entsB_len : ∀ (l : List Bb) (q : Nat), (∀ x ∈ l, x.wf ∧ x.nm.length ≤ q) → (entsB l).length ≤ l.length * (q + 80)
 | [], _, _ => by simp [entsB]
 | x :: l, q, h => by
  have h1 := entB_len (h x (by simp)).1
  have h2 := (h x (by simp)).2
  have h3 := entsB_len l q fun y hy => h y (by simp [hy])
  unfold entsB at h3 ⊢
  rw [List.flatMap_cons, List.length_append, List.length_cons, Nat.succ_mul]
  omega
theorem PI.wf_ {L : List Bb} {F : List Nat} {id0 ver q : Nat} {G : List Ky} {hv l : List Ch} {p : Pl} (h : PI L F id0 ver G hv l p) (hL : ∀ x ∈ L, x.wf ∧ x.nm.length ≤ q) (hl : ∀ x ∈ l, x.k.wf ∧ x.nm.length ≤ q ∧ x.body.length ≤ 1000000) (hq : q ≤ 100000) (hF : ∀ f ∈ F, f < 5000) (hid0 : id0 + l.length ≤ 1000000000000) (hver : ver ≤ 1000000) : ∀ x ∈ p.nx, x.wf ∧ x.nm.length ≤ q := by
 intro x hx
 rcases h.mem x hx with ⟨h1, _⟩ | ⟨t, h1⟩
 · exact hL x h1
 · obtain ⟨j, hj⟩ := List.mem_iff_getElem?.1 h1
   obtain ⟨y, f, a, _, rfl, _, hf⟩ := h.ws j x t hj
   obtain ⟨b1, b2, b3⟩ := hl y a
   have hj2 : j < p.ws.length := (List.getElem?_eq_some_iff.1 hj).1
   have hwl := h.wl
   have := hF f hf
   refine ⟨⟨?_, b1, ?_, ?_, ?_, ?_⟩, b2⟩
   · show y.nm.length < _
     omega
   · show i64ok (f : Int)
     unfold i64ok; omega
   · show i64ok ((id0 + j + 1 : Nat) : Int)
     unfold i64ok; omega
   · show i64ok ((ver + 1 : Nat) : Int)
     unfold i64ok; omega
   · show i64ok (y.body.length : Int)
     unfold i64ok; omega
theorem PI.init_ {L : List Bb} {F : List Nat} {id0 ver : Nat} {G : List Ky} (hr : L.Pairwise risen) (hi : ∀ x ∈ L, ∀ y ∈ L, x.b = y.b → x = y) : PI L F id0 ver G (L.map fun b => ⟨b.nm, b.k, [], false⟩) [] ⟨L, id0, F, false, []⟩ :=
 PI.init hr hi (by rw [List.map_map]; exact List.Perm.refl _) (by
  intro y hy
  obtain ⟨b, hb, rfl⟩ := List.mem_map.1 hy
  exact ⟨b, hb, rfl⟩)
theorem Tryz.sizePlan : (Tryz.prog.info? 128).map (·.size) = some 3 := by kernel_rfl
theorem Tryz.sizePg : (Tryz.prog.info? 88).map (·.size) = some 5 := by kernel_rfl
def plC (m r : Value) (A : Option Addr) (n c : Nat) : List Value := [m, r, .slice A n c]
def pgQ (q : Pg) : List Value := [.int .i64 q.k.t, .int .i64 q.k.c, .int .i64 q.k.e, .int .i64 q.id, .int .i64 q.ver]
section
variable {w : World} {b : Nat} {t : TypeId} {cs : Array Value}
theorem wpList_storeS {ops : Array Oper} {rest : List Oper} {op : Oper} {a : Act} {Q : Exit → Act → World → Prop} (hgd : op.guard = none) (T : TypeId) (x y : Operand) (ho : op.op = .store T x y)
 (h : Blk w b t cs) (us : List Value) (hs : cs.size = us.length) (hT : (Tryz.prog.info? T).map (·.size) = some us.length) (h1 : ∀ u ∈ us, u.oneCell' = true) (hx : a.eval x = .pointer (some ⟨b, 0, none⟩)) (hy : a.eval y = .agg us.toArray)
 (hK : ∀ w', Blk w' b t us.toArray → w.grownBy w' (some b) → wpList Tryz.prog ops Q rest (a.put op.dst undef) w') : wpList Tryz.prog ops Q (op :: rest) a w :=
 wpList_store_mid hgd T x y ho b 0 us.toArray hx hy (blk_there h us.length (by omega)) hT (all_oneCell_toArray h1) (hK _ (h.setAll us hs.symm) (grown_setCells b us 0 w))
theorem wp_storeS {op : Oper} {a : Act} {K : Act → World → Prop} {Q : Exit → Act → World → Prop} (T : TypeId) (x y : Operand) (ho : op.op = .store T x y)
 (h : Blk w b t cs) (us : List Value) (hs : cs.size = us.length) (hT : (Tryz.prog.info? T).map (·.size) = some us.length) (h1 : ∀ u ∈ us, u.oneCell' = true) (hx : a.eval x = .pointer (some ⟨b, 0, none⟩)) (hy : a.eval y = .agg us.toArray)
 (hK : ∀ w', Blk w' b t us.toArray → w.grownBy w' (some b) → K (a.put op.dst undef) w') : op.wp Tryz.prog a w K Q :=
 wp_store_mid T x y ho b 0 us.toArray hx hy (blk_there h us.length (by omega)) hT (all_oneCell_toArray h1) (hK _ (h.setAll us hs.symm) (grown_setCells b us 0 w))
theorem Tryz.sizeKey : (Tryz.prog.info? 54).map (·.size) = some 3 := by kernel_rfl
theorem wpList_storeK {ops : Array Oper} {rest : List Oper} {op : Oper} {a : Act} {Q : Exit → Act → World → Prop} (hgd : op.guard = none) (x y : Operand) (ho : op.op = .store 54 x y) {a0 a1 a2 a3 a4 : Value}
 (h : Blk w b t #[a0, a1, a2, a3, a4]) (hx : a.eval x = .pointer (some ⟨b, 0, none⟩)) (z : Ky) (hy : a.eval y = (.agg #[.int .i64 (z).t, .int .i64 (z).c, .int .i64 (z).e]))
 (hK : ∀ w', Blk w' b t #[.int .i64 z.t, .int .i64 z.c, .int .i64 z.e, a3, a4] → w.grownBy w' (some b) → wpList Tryz.prog ops Q rest (a.put op.dst undef) w') : wpList Tryz.prog ops Q (op :: rest) a w := by
 have hs := Blk.setCells [.int .i64 z.t, .int .i64 z.c, .int .i64 z.e] 0 w _ h (by simp)
 obtain ⟨cs', h1, h2⟩ := hs
 have : cs' = #[.int .i64 z.t, .int .i64 z.c, .int .i64 z.e, a3, a4] := by
  apply Array.toList_inj.1
  rw [h2]
  rfl
 rw [this] at h1
 exact wpList_store_mid hgd 54 x y ho b 0 #[.int .i64 z.t, .int .i64 z.c, .int .i64 z.e] hx hy (blk_there h 3 (by simp)) Tryz.sizeKey (all_oneCell_toArray (cs := [.int .i64 z.t, .int .i64 z.c, .int .i64 z.e]) (fun u hu => by simp at hu; rcases hu with rfl | rfl | rfl <;> rfl)) (hK _ h1 (grown_setCells b _ 0 w))
theorem load_Pl {m r : Value} {A : Option Addr} {n c : Nat} (h : Blk w b t #[m, r, .slice A n c]) : (loadVar 128 ⟨b, 0, none⟩).run Tryz.prog w = .ok (.agg #[m, r, .slice A n c]) w :=
 run_loadVar_mid (P := Tryz.prog) w b 0 128 (plC m r A n c) _ (blkB_range (l := plC m r A n c) h) Tryz.underlying128 rfl Tryz.sizePlan
theorem exec_loadPl {op : Oper} {a : Act} {m r : Value} {A : Option Addr} {n c : Nat} (x : Operand) (ho : op.op = .load 128 x) (hx : a.eval x = .pointer (some ⟨b, 0, none⟩)) (h : Blk w b t #[m, r, .slice A n c]) : (execOp a.eval op).run Tryz.prog w = .ok (.value (.agg #[m, r, .slice A n c])) w :=
 exec_load_mid 128 x ho b 0 hx (plC m r A n c) _ (blkB_range (l := plC m r A n c) h) Tryz.underlying128 rfl Tryz.sizePlan
theorem res_Pl {fn : Func} {k q : Nat} (hr : fn.results = #[.cell k 128, .tmp q]) {tmps : Array Value} {m r : Value} {A : Option Addr} {n c : Nat} (h : Blk w b t #[m, r, .slice A n c]) (hc : tmps.getD k undef = .pointer (some ⟨b, 0, none⟩)) {u : Value} (hu : tmps.getD q undef = u) :
 (results fn tmps).run Tryz.prog w = .ok (.tuple #[.agg #[m, r, .slice A n c], u]) w := by
 have := load_Pl h
 subst hu
 have hc' : tmps[k]?.getD undef = .pointer (some ⟨b, 0, none⟩) := by simpa using hc
 simp [results, hr, hc', asAddr, this]
theorem plB_cells {m r : Value} {A : Option Addr} {n c : Nat} (h : Blk w b t #[m, r, .slice A n c]) : w.cell? ⟨b, 0, none⟩ = some m ∧ w.cell? ⟨b, 1, none⟩ = some r ∧ w.cell? ⟨b, 2, none⟩ = some (.slice A n c) :=
 ⟨(h.cell 0).trans rfl, (h.cell 1).trans rfl, (h.cell 2).trans rfl⟩
theorem pg5_cells {q : Pg} (h : Blk w b t #[.int .i64 q.k.t, .int .i64 q.k.c, .int .i64 q.k.e, .int .i64 q.id, .int .i64 q.ver]) : w.cell? ⟨b, 0, none⟩ = some (.int .i64 q.k.t) ∧ w.cell? ⟨b, 1, none⟩ = some (.int .i64 q.k.c) ∧ w.cell? ⟨b, 2, none⟩ = some (.int .i64 q.k.e) ∧ w.cell? ⟨b, 3, none⟩ = some (.int .i64 q.id) ∧ w.cell? ⟨b, 4, none⟩ = some (.int .i64 q.ver) :=
 ⟨(h.cell 0).trans rfl, (h.cell 1).trans rfl, (h.cell 2).trans rfl, (h.cell 3).trans rfl, (h.cell 4).trans rfl⟩
end
structure PW (w0 w : World) (rc pb pm rq kq : Nat) (nx : List Bb) (s : Sp) : Prop where
 bel : Below w0.heap.size w0 w
 res : Blk w rc 128 #[.map none, .pointer none, .slice none 0 0]
 p : Blk w pb 128 #[.map (some pm), .pointer (some ⟨rq, 0, none⟩), .slice none 0 0]
 map : BMp w pm nx
 room : Mp w rq kq s
 ne : rc ≠ pb
 ge : w0.heap.size ≤ rc ∧ w0.heap.size ≤ pb ∧ w0.heap.size ≤ pm ∧ w0.heap.size ≤ rq ∧ w0.heap.size ≤ kq
section
variable {w0 w w' : World} {rc pb pm rq kq : Nat} {nx nx' : List Bb} {s s' : Sp}
theorem PW.on (h : PW w0 w rc pb pm rq kq nx s) (hb : Below w.heap.size w w') : PW w0 w' rc pb pm rq kq nx s :=
 ⟨h.bel.trans (hb.mono h.bel.size), h.res.keep (hb.block _ h.res.lt), h.p.keep (hb.block _ h.p.lt), h.map.bel hb, h.room.keep (hb.block _ h.room.blk.lt) (hb.block _ h.room.row.lt), h.ne, h.ge⟩
theorem PW.but (h : PW w0 w rc pb pm rq kq nx s) {g : Nat} {t : TypeId} {cs : Array Value} (hg : Blk w g t cs) (ht : t ≠ 128) (ht2 : t ≠ 173) (ht3 : t ≠ 4) (hw : w.grownBy w' (some g)) (hge : w0.heap.size ≤ g) : PW w0 w' rc pb pm rq kq nx s :=
 have k : ∀ x, x < w.heap.size → x ≠ g → w'.heap[x]? = w.heap[x]? := fun x hx hn => hw.block x hx (fun e => hn (by injection e))
 ⟨h.bel.grown hw h.bel.size (fun k hk => by injection hk with hk; omega), h.res.keep (k _ h.res.lt (Blk.ne h.res hg (Ne.symm ht))), h.p.keep (k _ h.p.lt (Blk.ne h.p hg (Ne.symm ht))), h.map.keep (k _ h.map.lt (h.map.ne hg)), h.room.keep (k _ h.room.blk.lt (Blk.ne h.room.blk hg (Ne.symm ht2))) (k _ h.room.row.lt (Blk.ne h.room.row hg (Ne.symm ht3))), h.ne, h.ge⟩
theorem PW.put (h : PW w0 w rc pb pm rq kq nx s) (hm : BMp w' pm nx') (hw : w.grownBy w' (some pm)) : PW w0 w' rc pb pm rq kq nx' s :=
 have k : ∀ x, x < w.heap.size → x ≠ pm → w'.heap[x]? = w.heap[x]? := fun x hx hn => hw.block x hx (fun e => hn (by injection e))
 ⟨h.bel.grown hw h.bel.size (fun k hk => by injection hk with hk; have := h.ge; omega), h.res.keep (k _ h.res.lt (h.map.ne h.res).symm), h.p.keep (k _ h.p.lt (h.map.ne h.p).symm), hm, h.room.keep (k _ h.room.blk.lt (h.map.ne h.room.blk).symm) (k _ h.room.row.lt (h.map.ne h.room.row).symm), h.ne, h.ge⟩
theorem PW.left (h : PW w0 w rc pb pm rq kq nx s) (hL : MLeft w w' rq kq s') : PW w0 w' rc pb pm rq kq nx s' :=
 ⟨h.bel.trans (hL.2.below (B := w0.heap.size) (fun j hj => by have := h.ge; omega) h.bel.size), h.res.keep (hL.at_ h.res.lt (Blk.ne h.res h.room.row (by decide))), h.p.keep (hL.at_ h.p.lt (Blk.ne h.p h.room.row (by decide))), h.map.keep (hL.at_ h.map.lt (h.map.ne h.room.row)), hL.1, h.ne, h.ge⟩
theorem PW.put_keep (h : PW w0 w rc pb pm rq kq nx s) (hw : w.grownBy w' (some pm)) {g : Nat} {t : TypeId} {cs : Array Value} (hg : Blk w g t cs) : Blk w' g t cs := hg.keep (hw.block _ hg.lt (fun e => h.map.ne hg (by injection e with e; exact e.symm)))
theorem PW.left_keep (h : PW w0 w rc pb pm rq kq nx s) (hL : MLeft w w' rq kq s') {g : Nat} {t : TypeId} {cs : Array Value} (hg : Blk w g t cs) (ht : t ≠ 4) : Blk w' g t cs := hg.keep (hL.at_ hg.lt (Blk.ne hg h.room.row ht))
theorem PW.cells (h : PW w0 w rc pb pm rq kq nx s) : w.cell? ⟨pb, 0, none⟩ = some (.map (some pm)) ∧ w.cell? ⟨pb, 1, none⟩ = some (.pointer (some ⟨rq, 0, none⟩)) ∧ w.cell? ⟨pb, 2, none⟩ = some (.slice none 0 0) := plB_cells h.p
end
section
variable {C : Ob → Ob} {w wr : World} {gd gv gc gs n m : Nat} {d : St} {v : Va} {c : Ce} {L : List Bb} {dn : Bool} {X U : Nat → Prop} {A : Option Addr} {q : Nat} {l : List Hc}
def PlRes (wr : World) (m : Nat) (r : Option Pl) (e : Ending) (w' : World) : Prop :=
 (r = none ∧ e = .returned (.tuple #[.agg #[.map none, .pointer none, .slice none 0 0], .bool false]) ∧ Below wr.heap.size wr w') ∨
 ∃ p pm rq kq sq DA Dn Dc, r = some p ∧ e = .returned (.tuple #[.agg #[.map (some pm), .pointer (some ⟨rq, 0, none⟩), .slice DA Dn Dc], .bool (decide (p.nx.length ≤ 1000 ∧ (dirB p.nx).length ≤ 65536))]) ∧ Below wr.heap.size wr w' ∧
  BMp w' pm p.nx ∧ Mp w' rq kq sq ∧ Rm sq m p.nx ∧ w'.ownsRow wr.heap.size 5 1 (.slice DA Dn Dc) Dn (bs (dirB p.nx)) ∧ Dn = (dirB p.nx).length ∧ wr.heap.size ≤ pm ∧ wr.heap.size ≤ rq ∧ wr.heap.size ≤ kq
theorem plan_c (hC : Foc C) (hOk : ∀ P : Ob, P.Ok → (C P).Ok) (hO : On w (C (TS gd d gv v gc c gs m L dn)) wr X) (h : ChOn U wr A n l) (hn : n ≤ 10000)
 (hr : L.Pairwise risen) (hi : ∀ x ∈ L, ∀ y ∈ L, x.b = y.b → x = y) (hb : ∀ x ∈ L, 2 ≤ x.b ∧ x.b < (m : Int)) (hw : ∀ x ∈ L, x.wf ∧ x.nm.length ≤ 40) (hL : L.length ≤ 1000)
 (hl : ∀ x ∈ l, x.nm.length ≤ 40 ∧ x.n ≤ 65536) (hd : ((l.map Hc.ch).map Ch.nm).Nodup) (hvl : v.L.length ≤ 100000000) (hv : c.ver ≤ 500000) :
 Calls Tryz.prog 51 #[.pointer (some ⟨gs, 0, none⟩), .slice A n q] wr (PlRes wr m (plan v.G c.ver (l.map Hc.ch) ⟨L, v.L.length, frs m L, false, []⟩)) := by
 have HH := hid h
 have HO := hid hO
 have HOK := hid hOk
 have HN := hid hn
 have HLN : Hid (l.length = n) := hid h.len
 have HR := hid hr
 have HI := hid hi
 have HB := hid hb
 have HW := hid hw
 have HLL := hid hL
 have HL := hid hl
 have HD := hid hd
 have HVL := hid hvl
 have HV := hid hv
 obtain ⟨mb, rb, k, s, hS⟩ := so_at (hC.comp (ts_s gd d gv v gc c)) hO
 have HS := hid hS
 have hq1 := up1k (n := c.ver) (by omega)
 clear h hO hOk hn hr hi hb hw hL hl hd hvl hv hS
 have hmm := fun (m : Int) (w : World) => run_makeMapN Tryz.underlying122 m w
 go_enter Tryz.func51, Tryz.ntmps51
 go_wp2_with fail
 have HB0 : Hid (Below wr.heap.size wr (wr.alloc (.cells #[.map none, .pointer none, .slice none 0 0] 128)).drew) := hid (((Below.refl _ _).alloc (nl _) _).drew)
 have HR0 : Hid (Blk (wr.alloc (.cells #[.map none, .pointer none, .slice none 0 0] 128)).drew wr.heap.size 128 #[.map none, .pointer none, .slice none 0 0]) := hid (Blk.new wr 128 #[.map none, .pointer none, .slice none 0 0])
 obtain ⟨rc, hrc⟩ : ∃ rc, rc = wr.heap.size := ⟨_, rfl⟩
 have HRC : Hid (wr.heap.size ≤ rc) := hid (by omega)
 rw [← hrc] at HR0 ⊢
 go_cut [6] (fun s6 wx => ∃ pb pm rq kq, s6 = .pointer (some ⟨pb, 0, none⟩) ∧ Hid (PW wr wx rc pb pm rq kq [] s))
 case first =>
  have HS0 := hid (HS.out.bel HB0.out)
  have HLT := hid HS.out.lt
  clear HS hrc HO
  refine wp_region_held_drew (S := fun wx => SoB wx gs gd gv gc m L dn mb rb k s) (by kernel_rfl) HS0.out (fun HS => ?_)
  generalize (wr.alloc (.cells #[.map none, .pointer none, .slice none 0 0] 128)).drew = y0 at *
  refine qT 0 ?va0 ?ya0 HS ?ra0
  case ya0 =>
   refine qI fun wS hSw => ?_
   obtain ⟨z0, z1, z2, z3, z4, z5⟩ := SoB.cells hSw
   have z6 := fun ty => (SoB.map hSw).len ty
   go_simp
   try with_reducible rfl
  try simp only [Act.put, zA]
  refine qT 1 ?va1 ?ya1 HS ?ra1
  case ya1 =>
   refine qI fun wS hSw => ?_
   obtain ⟨z0, z1, z2, z3, z4, z5⟩ := SoB.cells hSw
   have z6 := fun ty => (SoB.map hSw).len ty
   go_simp
   try with_reducible rfl
  try simp only [Act.put, zA]
  refine qT 2 ?va2 ?ya2 HS ?ra2
  case ya2 =>
   refine qI fun wS hSw => ?_
   obtain ⟨z0, z1, z2, z3, z4, z5⟩ := SoB.cells hSw
   have z6 := fun ty => (SoB.map hSw).len ty
   go_simp
   try with_reducible rfl
  try simp only [Act.put, zA]
  refine qT 3 ?va3 ?ya3 HS ?ra3
  case ya3 =>
   refine qI fun wS hSw => ?_
   obtain ⟨z0, z1, z2, z3, z4, z5⟩ := SoB.cells hSw
   have z6 := fun ty => (SoB.map hSw).len ty
   go_simp
   try with_reducible rfl
  try simp only [Act.put, zA]
  refine qT 4 ?va4 ?ya4 HS ?ra4
  case ya4 =>
   refine qI fun wS hSw => ?_
   obtain ⟨z0, z1, z2, z3, z4, z5⟩ := SoB.cells hSw
   have z6 := fun ty => (SoB.map hSw).len ty
   go_simp
   try with_reducible rfl
  try simp only [Act.put, zA]
  refine qT 6 ?va6 ?ya6 HS ?ra6
  case ya6 =>
   refine qI fun wS hSw => ?_
   obtain ⟨z0, z1, z2, z3, z4, z5⟩ := SoB.cells hSw
   have z6 := fun ty => (SoB.map hSw).len ty
   go_simp
   try with_reducible rfl
  try simp only [Act.put, zA]
  refine qT 7 ?va7 ?ya7 HS ?ra7
  case ya7 =>
   refine qI fun wS hSw => ?_
   obtain ⟨z0, z1, z2, z3, z4, z5⟩ := SoB.cells hSw
   have z6 := fun ty => (SoB.map hSw).len ty
   go_simp
   try with_reducible rfl
  try simp only [Act.put, zA]
  refine qT 8 ?va8 ?ya8 HS ?ra8
  case ya8 =>
   refine qI fun wS hSw => ?_
   obtain ⟨z0, z1, z2, z3, z4, z5⟩ := SoB.cells hSw
   have z6 := fun ty => (SoB.map hSw).len ty
   go_simp
   try with_reducible rfl
  try simp only [Act.put, zA]
  refine qT 9 ?va9 ?ya9 HS ?ra9
  case ya9 =>
   refine qI fun wS hSw => ?_
   obtain ⟨z0, z1, z2, z3, z4, z5⟩ := SoB.cells hSw
   have z6 := fun ty => (SoB.map hSw).len ty
   go_simp
   try with_reducible rfl
  try simp only [Act.put, zA]
  refine wpAnyH_ready (rs := [5, 10, 12]) (by kernel_rfl) (by simp) ?_
  refine (AllReadyH.cons (o := ?or15) ?hor15 (fun K hK => ?stepr15) (AllReadyH.cons (o := ?or110) ?hor110 (fun K hK => ?stepr110) (AllReadyH.cons (o := ?or112) ?hor112 (fun K hK => ?stepr112) AllReadyH.nil)))
  case hor15 => simp only [zD, zE, zF]; exact rfl
  case hor110 => simp only [zD, zE, zF]; exact rfl
  case hor112 => simp only [zD, zE, zF]; exact rfl
  case stepr15 =>
   go_simp
   refine hK.out _ _ (HS0.out.bel ((Below.refl y0.heap.size y0).alloc (nl _) (.map #[] 0))) (fun HS => ?_)
   clear hK K
   try simp only [Act.put, zA]
   have hcb : Below y0.heap.size y0 (y0.alloc (.map #[] 0)) := (Below.refl _ _).alloc (nl _) _
   have HM1 := hid (BMp.made y0)
   have HGM : Hid (wr.heap.size ≤ y0.heap.size) := hid HB0.out.size
   have HB1 := hid (HB0.out.trans (hcb.mono HB0.out.size))
   have HS1 := hid (HS0.out.bel hcb)
   have HR1 := hid (HR0.out.keep (hcb.block _ HR0.out.lt))
   clear hcb HS
   clear HB0 HS0 HR0
   generalize y0.alloc (.map #[] 0) = y1 at *
   generalize y0.heap.size = pm at *
   have HS := HS1.out
   refine wpAnyH_ready (rs := [10, 12]) (by kernel_rfl) (by simp) ?_
   refine (AllReadyH.cons (o := ?or210) ?hor210 (fun K hK => ?stepr210) (AllReadyH.cons (o := ?or212) ?hor212 (fun K hK => ?stepr212) AllReadyH.nil))
   case hor210 => simp only [zD, zE, zF]; exact rfl
   case hor212 => simp only [zD, zE, zF]; exact rfl
   case stepr210 =>
    go_simp
    refine (copy_c y1 rb k s HS1.out.room).mono ?_
    rintro e y2 ⟨rq, kq, rfl, hcm, hcb, hcg, hck⟩
    have HC2 := hid hcm
    have HGC : Hid (wr.heap.size ≤ rq ∧ wr.heap.size ≤ kq) := hid (by have := HB1.out.size; omega)
    have HB2 := hid (HB1.out.trans (hcb.mono HB1.out.size))
    have HS2 := hid (HS1.out.bel hcb)
    have HR2 := hid (HR1.out.keep (hcb.block _ HR1.out.lt))
    have HM2 := hid (HM1.out.bel hcb)
    clear hcm hcb hcg hck
    clear HB1 HS1 HR1 HM1
    refine hK.out _ _ HS2.out (fun HS => ?_)
    clear hK K
    try simp only [Act.put, zA]
    refine qT 11 ?vr3u11 ?yr3u11 HS ?rr3u11
    case yr3u11 => refine qI fun wS hSw => ?_; go_simp; try with_reducible rfl
    try simp only [Act.put, zA]
    refine qR 12 fun K hK => ?_
    go_simp
    refine hK.out _ _ (HS2.out.bel ((Below.refl y2.heap.size y2).alloc (nl _) (.cells #[.map none, .pointer none, .slice none 0 0] 128))) (fun HS => ?_)
    clear hK K
    try simp only [Act.put, zA]
    have hcb : Below y2.heap.size y2 (y2.alloc (.cells #[.map none, .pointer none, .slice none 0 0] 128)) := (Below.refl _ _).alloc (nl _) _
    have HP3 := hid (Blk.new y2 128 #[.map none, .pointer none, .slice none 0 0])
    have HGP : Hid (wr.heap.size ≤ y2.heap.size) := hid HB2.out.size
    have HNE : Hid (rc ≠ y2.heap.size) := hid (fun e => by have := HR2.out.lt; omega)
    have HB3 := hid (HB2.out.trans (hcb.mono HB2.out.size))
    have HS3 := hid (HS2.out.bel hcb)
    have HR3 := hid (HR2.out.keep (hcb.block _ HR2.out.lt))
    have HM3 := hid (HM2.out.bel hcb)
    have HC3 := hid (HC2.out.keep (hcb.block _ HC2.out.blk.lt) (hcb.block _ HC2.out.row.lt))
    clear hcb HS
    clear HB2 HS2 HR2 HM2 HC2
    generalize y2.alloc (.cells #[.map none, .pointer none, .slice none 0 0] 128) = y3 at *
    generalize y2.heap.size = pb at *
    have HS := HS3.out
    refine qR 13 fun K hK => ?_
    refine wp_storeS 128 _ _ rfl HP3.out (plC (.map (some pm)) (.pointer (some ⟨rq, 0, none⟩)) none 0 0) rfl Tryz.sizePlan (fun u hu => by simp [plC] at hu; rcases hu with rfl | rfl | rfl <;> rfl) rfl rfl ?_
    intro y4 hcn hcg
    have hk0 : ∀ x, x < y3.heap.size → x ≠ pb → y4.heap[x]? = y3.heap[x]? := fun x hx hn => hcg.block x hx (fun e => hn (by injection e))
    have HPW : Hid (PW wr y4 rc pb pm rq kq [] s) := hid ⟨HB3.out.grown hcg HB3.out.size (fun k hk => by injection hk with hk; have := HGP.out; omega), HR3.out.keep (hk0 _ HR3.out.lt HNE.out), hcn, HM3.out.keep (hk0 _ HM3.out.lt (HM3.out.ne HP3.out)), HC3.out.keep (hk0 _ HC3.out.blk.lt (Blk.ne HC3.out.blk HP3.out (by decide))) (hk0 _ HC3.out.row.lt (Blk.ne HC3.out.row HP3.out (by decide))), HNE.out, HRC.out, HGP.out, HGM.out, HGC.out.1, HGC.out.2⟩
    have HS4 := hid (HS3.out.keep (hk0 _ HS3.out.lt.1 (fun e => by have := HGP.out; have := HLT.out.1; omega)) (hk0 _ HS3.out.lt.2.1 (fun e => by have := HGP.out; have := HLT.out.2.1; omega)) (hk0 _ HS3.out.lt.2.2.1 (fun e => by have := HGP.out; have := HLT.out.2.2.1; omega)) (hk0 _ HS3.out.lt.2.2.2 (fun e => by have := HGP.out; have := HLT.out.2.2.2; omega)))
    clear hk0 hcn hcg
    refine hK.out _ _ HS4.out (fun HS => ?_)
    clear hK K
    try simp only [Act.put]
    refine qD ?_
    clear HS
    go_wp2_with fail
    go_meet
    case rel => exact ⟨pb, pm, rq, kq, rfl, HPW⟩
   case stepr212 =>
    go_simp
    refine hK.out _ _ (HS1.out.bel ((Below.refl y1.heap.size y1).alloc (nl _) (.cells #[.map none, .pointer none, .slice none 0 0] 128))) (fun HS => ?_)
    clear hK K
    try simp only [Act.put, zA]
    have hcb : Below y1.heap.size y1 (y1.alloc (.cells #[.map none, .pointer none, .slice none 0 0] 128)) := (Below.refl _ _).alloc (nl _) _
    have HP2 := hid (Blk.new y1 128 #[.map none, .pointer none, .slice none 0 0])
    have HGP : Hid (wr.heap.size ≤ y1.heap.size) := hid HB1.out.size
    have HNE : Hid (rc ≠ y1.heap.size) := hid (fun e => by have := HR1.out.lt; omega)
    have HB2 := hid (HB1.out.trans (hcb.mono HB1.out.size))
    have HS2 := hid (HS1.out.bel hcb)
    have HR2 := hid (HR1.out.keep (hcb.block _ HR1.out.lt))
    have HM2 := hid (HM1.out.bel hcb)
    clear hcb HS
    clear HB1 HS1 HR1 HM1
    generalize y1.alloc (.cells #[.map none, .pointer none, .slice none 0 0] 128) = y2 at *
    generalize y1.heap.size = pb at *
    have HS := HS2.out
    refine qR 10 fun K hK => ?_
    go_simp
    refine (copy_c y2 rb k s HS2.out.room).mono ?_
    rintro e y3 ⟨rq, kq, rfl, hcm, hcb, hcg, hck⟩
    have HC3 := hid hcm
    have HGC : Hid (wr.heap.size ≤ rq ∧ wr.heap.size ≤ kq) := hid (by have := HB2.out.size; omega)
    have HB3 := hid (HB2.out.trans (hcb.mono HB2.out.size))
    have HS3 := hid (HS2.out.bel hcb)
    have HR3 := hid (HR2.out.keep (hcb.block _ HR2.out.lt))
    have HM3 := hid (HM2.out.bel hcb)
    have HP3 := hid (HP2.out.keep (hcb.block _ HP2.out.lt))
    clear hcm hcb hcg hck
    clear HB2 HS2 HR2 HM2 HP2
    refine hK.out _ _ HS3.out (fun HS => ?_)
    clear hK K
    try simp only [Act.put, zA]
    refine qT 11 ?vr6u11 ?yr6u11 HS ?rr6u11
    case yr6u11 => refine qI fun wS hSw => ?_; go_simp; try with_reducible rfl
    try simp only [Act.put, zA]
    refine qR 13 fun K hK => ?_
    refine wp_storeS 128 _ _ rfl HP3.out (plC (.map (some pm)) (.pointer (some ⟨rq, 0, none⟩)) none 0 0) rfl Tryz.sizePlan (fun u hu => by simp [plC] at hu; rcases hu with rfl | rfl | rfl <;> rfl) rfl rfl ?_
    intro y4 hcn hcg
    have hk0 : ∀ x, x < y3.heap.size → x ≠ pb → y4.heap[x]? = y3.heap[x]? := fun x hx hn => hcg.block x hx (fun e => hn (by injection e))
    have HPW : Hid (PW wr y4 rc pb pm rq kq [] s) := hid ⟨HB3.out.grown hcg HB3.out.size (fun k hk => by injection hk with hk; have := HGP.out; omega), HR3.out.keep (hk0 _ HR3.out.lt HNE.out), hcn, HM3.out.keep (hk0 _ HM3.out.lt (HM3.out.ne HP3.out)), HC3.out.keep (hk0 _ HC3.out.blk.lt (Blk.ne HC3.out.blk HP3.out (by decide))) (hk0 _ HC3.out.row.lt (Blk.ne HC3.out.row HP3.out (by decide))), HNE.out, HRC.out, HGP.out, HGM.out, HGC.out.1, HGC.out.2⟩
    have HS4 := hid (HS3.out.keep (hk0 _ HS3.out.lt.1 (fun e => by have := HGP.out; have := HLT.out.1; omega)) (hk0 _ HS3.out.lt.2.1 (fun e => by have := HGP.out; have := HLT.out.2.1; omega)) (hk0 _ HS3.out.lt.2.2.1 (fun e => by have := HGP.out; have := HLT.out.2.2.1; omega)) (hk0 _ HS3.out.lt.2.2.2 (fun e => by have := HGP.out; have := HLT.out.2.2.2; omega)))
    clear hk0 hcn hcg
    refine hK.out _ _ HS4.out (fun HS => ?_)
    clear hK K
    try simp only [Act.put]
    refine qD ?_
    clear HS
    go_wp2_with fail
    go_meet
    case rel => exact ⟨pb, pm, rq, kq, rfl, HPW⟩
  case stepr110 =>
   go_simp
   refine (copy_c y0 rb k s HS0.out.room).mono ?_
   rintro e y1 ⟨rq, kq, rfl, hcm, hcb, hcg, hck⟩
   have HC1 := hid hcm
   have HGC : Hid (wr.heap.size ≤ rq ∧ wr.heap.size ≤ kq) := hid (by have := HB0.out.size; omega)
   have HB1 := hid (HB0.out.trans (hcb.mono HB0.out.size))
   have HS1 := hid (HS0.out.bel hcb)
   have HR1 := hid (HR0.out.keep (hcb.block _ HR0.out.lt))
   clear hcm hcb hcg hck
   clear HB0 HS0 HR0
   refine hK.out _ _ HS1.out (fun HS => ?_)
   clear hK K
   try simp only [Act.put, zA]
   refine wpAnyH_ready (rs := [5, 12]) (by kernel_rfl) (by simp) ?_
   refine (AllReadyH.cons (o := ?or75) ?hor75 (fun K hK => ?stepr75) (AllReadyH.cons (o := ?or712) ?hor712 (fun K hK => ?stepr712) AllReadyH.nil))
   case hor75 => simp only [zD, zE, zF]; exact rfl
   case hor712 => simp only [zD, zE, zF]; exact rfl
   case stepr75 =>
    go_simp
    refine hK.out _ _ (HS1.out.bel ((Below.refl y1.heap.size y1).alloc (nl _) (.map #[] 0))) (fun HS => ?_)
    clear hK K
    try simp only [Act.put, zA]
    have hcb : Below y1.heap.size y1 (y1.alloc (.map #[] 0)) := (Below.refl _ _).alloc (nl _) _
    have HM2 := hid (BMp.made y1)
    have HGM : Hid (wr.heap.size ≤ y1.heap.size) := hid HB1.out.size
    have HB2 := hid (HB1.out.trans (hcb.mono HB1.out.size))
    have HS2 := hid (HS1.out.bel hcb)
    have HR2 := hid (HR1.out.keep (hcb.block _ HR1.out.lt))
    have HC2 := hid (HC1.out.keep (hcb.block _ HC1.out.blk.lt) (hcb.block _ HC1.out.row.lt))
    clear hcb HS
    clear HB1 HS1 HR1 HC1
    generalize y1.alloc (.map #[] 0) = y2 at *
    generalize y1.heap.size = pm at *
    have HS := HS2.out
    refine qT 11 ?vr8u11 ?yr8u11 HS ?rr8u11
    case yr8u11 => refine qI fun wS hSw => ?_; go_simp; try with_reducible rfl
    try simp only [Act.put, zA]
    refine qR 12 fun K hK => ?_
    go_simp
    refine hK.out _ _ (HS2.out.bel ((Below.refl y2.heap.size y2).alloc (nl _) (.cells #[.map none, .pointer none, .slice none 0 0] 128))) (fun HS => ?_)
    clear hK K
    try simp only [Act.put, zA]
    have hcb : Below y2.heap.size y2 (y2.alloc (.cells #[.map none, .pointer none, .slice none 0 0] 128)) := (Below.refl _ _).alloc (nl _) _
    have HP3 := hid (Blk.new y2 128 #[.map none, .pointer none, .slice none 0 0])
    have HGP : Hid (wr.heap.size ≤ y2.heap.size) := hid HB2.out.size
    have HNE : Hid (rc ≠ y2.heap.size) := hid (fun e => by have := HR2.out.lt; omega)
    have HB3 := hid (HB2.out.trans (hcb.mono HB2.out.size))
    have HS3 := hid (HS2.out.bel hcb)
    have HR3 := hid (HR2.out.keep (hcb.block _ HR2.out.lt))
    have HM3 := hid (HM2.out.bel hcb)
    have HC3 := hid (HC2.out.keep (hcb.block _ HC2.out.blk.lt) (hcb.block _ HC2.out.row.lt))
    clear hcb HS
    clear HB2 HS2 HR2 HM2 HC2
    generalize y2.alloc (.cells #[.map none, .pointer none, .slice none 0 0] 128) = y3 at *
    generalize y2.heap.size = pb at *
    have HS := HS3.out
    refine qR 13 fun K hK => ?_
    refine wp_storeS 128 _ _ rfl HP3.out (plC (.map (some pm)) (.pointer (some ⟨rq, 0, none⟩)) none 0 0) rfl Tryz.sizePlan (fun u hu => by simp [plC] at hu; rcases hu with rfl | rfl | rfl <;> rfl) rfl rfl ?_
    intro y4 hcn hcg
    have hk0 : ∀ x, x < y3.heap.size → x ≠ pb → y4.heap[x]? = y3.heap[x]? := fun x hx hn => hcg.block x hx (fun e => hn (by injection e))
    have HPW : Hid (PW wr y4 rc pb pm rq kq [] s) := hid ⟨HB3.out.grown hcg HB3.out.size (fun k hk => by injection hk with hk; have := HGP.out; omega), HR3.out.keep (hk0 _ HR3.out.lt HNE.out), hcn, HM3.out.keep (hk0 _ HM3.out.lt (HM3.out.ne HP3.out)), HC3.out.keep (hk0 _ HC3.out.blk.lt (Blk.ne HC3.out.blk HP3.out (by decide))) (hk0 _ HC3.out.row.lt (Blk.ne HC3.out.row HP3.out (by decide))), HNE.out, HRC.out, HGP.out, HGM.out, HGC.out.1, HGC.out.2⟩
    have HS4 := hid (HS3.out.keep (hk0 _ HS3.out.lt.1 (fun e => by have := HGP.out; have := HLT.out.1; omega)) (hk0 _ HS3.out.lt.2.1 (fun e => by have := HGP.out; have := HLT.out.2.1; omega)) (hk0 _ HS3.out.lt.2.2.1 (fun e => by have := HGP.out; have := HLT.out.2.2.1; omega)) (hk0 _ HS3.out.lt.2.2.2 (fun e => by have := HGP.out; have := HLT.out.2.2.2; omega)))
    clear hk0 hcn hcg
    refine hK.out _ _ HS4.out (fun HS => ?_)
    clear hK K
    try simp only [Act.put]
    refine qD ?_
    clear HS
    go_wp2_with fail
    go_meet
    case rel => exact ⟨pb, pm, rq, kq, rfl, HPW⟩
   case stepr712 =>
    go_simp
    refine hK.out _ _ (HS1.out.bel ((Below.refl y1.heap.size y1).alloc (nl _) (.cells #[.map none, .pointer none, .slice none 0 0] 128))) (fun HS => ?_)
    clear hK K
    try simp only [Act.put, zA]
    have hcb : Below y1.heap.size y1 (y1.alloc (.cells #[.map none, .pointer none, .slice none 0 0] 128)) := (Below.refl _ _).alloc (nl _) _
    have HP2 := hid (Blk.new y1 128 #[.map none, .pointer none, .slice none 0 0])
    have HGP : Hid (wr.heap.size ≤ y1.heap.size) := hid HB1.out.size
    have HNE : Hid (rc ≠ y1.heap.size) := hid (fun e => by have := HR1.out.lt; omega)
    have HB2 := hid (HB1.out.trans (hcb.mono HB1.out.size))
    have HS2 := hid (HS1.out.bel hcb)
    have HR2 := hid (HR1.out.keep (hcb.block _ HR1.out.lt))
    have HC2 := hid (HC1.out.keep (hcb.block _ HC1.out.blk.lt) (hcb.block _ HC1.out.row.lt))
    clear hcb HS
    clear HB1 HS1 HR1 HC1
    generalize y1.alloc (.cells #[.map none, .pointer none, .slice none 0 0] 128) = y2 at *
    generalize y1.heap.size = pb at *
    have HS := HS2.out
    refine qR 5 fun K hK => ?_
    go_simp
    refine hK.out _ _ (HS2.out.bel ((Below.refl y2.heap.size y2).alloc (nl _) (.map #[] 0))) (fun HS => ?_)
    clear hK K
    try simp only [Act.put, zA]
    have hcb : Below y2.heap.size y2 (y2.alloc (.map #[] 0)) := (Below.refl _ _).alloc (nl _) _
    have HM3 := hid (BMp.made y2)
    have HGM : Hid (wr.heap.size ≤ y2.heap.size) := hid HB2.out.size
    have HB3 := hid (HB2.out.trans (hcb.mono HB2.out.size))
    have HS3 := hid (HS2.out.bel hcb)
    have HR3 := hid (HR2.out.keep (hcb.block _ HR2.out.lt))
    have HC3 := hid (HC2.out.keep (hcb.block _ HC2.out.blk.lt) (hcb.block _ HC2.out.row.lt))
    have HP3 := hid (HP2.out.keep (hcb.block _ HP2.out.lt))
    clear hcb HS
    clear HB2 HS2 HR2 HC2 HP2
    generalize y2.alloc (.map #[] 0) = y3 at *
    generalize y2.heap.size = pm at *
    have HS := HS3.out
    refine qT 11 ?vr11u11 ?yr11u11 HS ?rr11u11
    case yr11u11 => refine qI fun wS hSw => ?_; go_simp; try with_reducible rfl
    try simp only [Act.put, zA]
    refine qR 13 fun K hK => ?_
    refine wp_storeS 128 _ _ rfl HP3.out (plC (.map (some pm)) (.pointer (some ⟨rq, 0, none⟩)) none 0 0) rfl Tryz.sizePlan (fun u hu => by simp [plC] at hu; rcases hu with rfl | rfl | rfl <;> rfl) rfl rfl ?_
    intro y4 hcn hcg
    have hk0 : ∀ x, x < y3.heap.size → x ≠ pb → y4.heap[x]? = y3.heap[x]? := fun x hx hn => hcg.block x hx (fun e => hn (by injection e))
    have HPW : Hid (PW wr y4 rc pb pm rq kq [] s) := hid ⟨HB3.out.grown hcg HB3.out.size (fun k hk => by injection hk with hk; have := HGP.out; omega), HR3.out.keep (hk0 _ HR3.out.lt HNE.out), hcn, HM3.out.keep (hk0 _ HM3.out.lt (HM3.out.ne HP3.out)), HC3.out.keep (hk0 _ HC3.out.blk.lt (Blk.ne HC3.out.blk HP3.out (by decide))) (hk0 _ HC3.out.row.lt (Blk.ne HC3.out.row HP3.out (by decide))), HNE.out, HRC.out, HGP.out, HGM.out, HGC.out.1, HGC.out.2⟩
    have HS4 := hid (HS3.out.keep (hk0 _ HS3.out.lt.1 (fun e => by have := HGP.out; have := HLT.out.1; omega)) (hk0 _ HS3.out.lt.2.1 (fun e => by have := HGP.out; have := HLT.out.2.1; omega)) (hk0 _ HS3.out.lt.2.2.1 (fun e => by have := HGP.out; have := HLT.out.2.2.1; omega)) (hk0 _ HS3.out.lt.2.2.2 (fun e => by have := HGP.out; have := HLT.out.2.2.2; omega)))
    clear hk0 hcn hcg
    refine hK.out _ _ HS4.out (fun HS => ?_)
    clear hK K
    try simp only [Act.put]
    refine qD ?_
    clear HS
    go_wp2_with fail
    go_meet
    case rel => exact ⟨pb, pm, rq, kq, rfl, HPW⟩
  case stepr112 =>
   go_simp
   refine hK.out _ _ (HS0.out.bel ((Below.refl y0.heap.size y0).alloc (nl _) (.cells #[.map none, .pointer none, .slice none 0 0] 128))) (fun HS => ?_)
   clear hK K
   try simp only [Act.put, zA]
   have hcb : Below y0.heap.size y0 (y0.alloc (.cells #[.map none, .pointer none, .slice none 0 0] 128)) := (Below.refl _ _).alloc (nl _) _
   have HP1 := hid (Blk.new y0 128 #[.map none, .pointer none, .slice none 0 0])
   have HGP : Hid (wr.heap.size ≤ y0.heap.size) := hid HB0.out.size
   have HNE : Hid (rc ≠ y0.heap.size) := hid (fun e => by have := HR0.out.lt; omega)
   have HB1 := hid (HB0.out.trans (hcb.mono HB0.out.size))
   have HS1 := hid (HS0.out.bel hcb)
   have HR1 := hid (HR0.out.keep (hcb.block _ HR0.out.lt))
   clear hcb HS
   clear HB0 HS0 HR0
   generalize y0.alloc (.cells #[.map none, .pointer none, .slice none 0 0] 128) = y1 at *
   generalize y0.heap.size = pb at *
   have HS := HS1.out
   refine wpAnyH_ready (rs := [5, 10]) (by kernel_rfl) (by simp) ?_
   refine (AllReadyH.cons (o := ?or125) ?hor125 (fun K hK => ?stepr125) (AllReadyH.cons (o := ?or1210) ?hor1210 (fun K hK => ?stepr1210) AllReadyH.nil))
   case hor125 => simp only [zD, zE, zF]; exact rfl
   case hor1210 => simp only [zD, zE, zF]; exact rfl
   case stepr125 =>
    go_simp
    refine hK.out _ _ (HS1.out.bel ((Below.refl y1.heap.size y1).alloc (nl _) (.map #[] 0))) (fun HS => ?_)
    clear hK K
    try simp only [Act.put, zA]
    have hcb : Below y1.heap.size y1 (y1.alloc (.map #[] 0)) := (Below.refl _ _).alloc (nl _) _
    have HM2 := hid (BMp.made y1)
    have HGM : Hid (wr.heap.size ≤ y1.heap.size) := hid HB1.out.size
    have HB2 := hid (HB1.out.trans (hcb.mono HB1.out.size))
    have HS2 := hid (HS1.out.bel hcb)
    have HR2 := hid (HR1.out.keep (hcb.block _ HR1.out.lt))
    have HP2 := hid (HP1.out.keep (hcb.block _ HP1.out.lt))
    clear hcb HS
    clear HB1 HS1 HR1 HP1
    generalize y1.alloc (.map #[] 0) = y2 at *
    generalize y1.heap.size = pm at *
    have HS := HS2.out
    refine qR 10 fun K hK => ?_
    go_simp
    refine (copy_c y2 rb k s HS2.out.room).mono ?_
    rintro e y3 ⟨rq, kq, rfl, hcm, hcb, hcg, hck⟩
    have HC3 := hid hcm
    have HGC : Hid (wr.heap.size ≤ rq ∧ wr.heap.size ≤ kq) := hid (by have := HB2.out.size; omega)
    have HB3 := hid (HB2.out.trans (hcb.mono HB2.out.size))
    have HS3 := hid (HS2.out.bel hcb)
    have HR3 := hid (HR2.out.keep (hcb.block _ HR2.out.lt))
    have HM3 := hid (HM2.out.bel hcb)
    have HP3 := hid (HP2.out.keep (hcb.block _ HP2.out.lt))
    clear hcm hcb hcg hck
    clear HB2 HS2 HR2 HM2 HP2
    refine hK.out _ _ HS3.out (fun HS => ?_)
    clear hK K
    try simp only [Act.put, zA]
    refine qT 11 ?vr14u11 ?yr14u11 HS ?rr14u11
    case yr14u11 => refine qI fun wS hSw => ?_; go_simp; try with_reducible rfl
    try simp only [Act.put, zA]
    refine qR 13 fun K hK => ?_
    refine wp_storeS 128 _ _ rfl HP3.out (plC (.map (some pm)) (.pointer (some ⟨rq, 0, none⟩)) none 0 0) rfl Tryz.sizePlan (fun u hu => by simp [plC] at hu; rcases hu with rfl | rfl | rfl <;> rfl) rfl rfl ?_
    intro y4 hcn hcg
    have hk0 : ∀ x, x < y3.heap.size → x ≠ pb → y4.heap[x]? = y3.heap[x]? := fun x hx hn => hcg.block x hx (fun e => hn (by injection e))
    have HPW : Hid (PW wr y4 rc pb pm rq kq [] s) := hid ⟨HB3.out.grown hcg HB3.out.size (fun k hk => by injection hk with hk; have := HGP.out; omega), HR3.out.keep (hk0 _ HR3.out.lt HNE.out), hcn, HM3.out.keep (hk0 _ HM3.out.lt (HM3.out.ne HP3.out)), HC3.out.keep (hk0 _ HC3.out.blk.lt (Blk.ne HC3.out.blk HP3.out (by decide))) (hk0 _ HC3.out.row.lt (Blk.ne HC3.out.row HP3.out (by decide))), HNE.out, HRC.out, HGP.out, HGM.out, HGC.out.1, HGC.out.2⟩
    have HS4 := hid (HS3.out.keep (hk0 _ HS3.out.lt.1 (fun e => by have := HGP.out; have := HLT.out.1; omega)) (hk0 _ HS3.out.lt.2.1 (fun e => by have := HGP.out; have := HLT.out.2.1; omega)) (hk0 _ HS3.out.lt.2.2.1 (fun e => by have := HGP.out; have := HLT.out.2.2.1; omega)) (hk0 _ HS3.out.lt.2.2.2 (fun e => by have := HGP.out; have := HLT.out.2.2.2; omega)))
    clear hk0 hcn hcg
    refine hK.out _ _ HS4.out (fun HS => ?_)
    clear hK K
    try simp only [Act.put]
    refine qD ?_
    clear HS
    go_wp2_with fail
    go_meet
    case rel => exact ⟨pb, pm, rq, kq, rfl, HPW⟩
   case stepr1210 =>
    go_simp
    refine (copy_c y1 rb k s HS1.out.room).mono ?_
    rintro e y2 ⟨rq, kq, rfl, hcm, hcb, hcg, hck⟩
    have HC2 := hid hcm
    have HGC : Hid (wr.heap.size ≤ rq ∧ wr.heap.size ≤ kq) := hid (by have := HB1.out.size; omega)
    have HB2 := hid (HB1.out.trans (hcb.mono HB1.out.size))
    have HS2 := hid (HS1.out.bel hcb)
    have HR2 := hid (HR1.out.keep (hcb.block _ HR1.out.lt))
    have HP2 := hid (HP1.out.keep (hcb.block _ HP1.out.lt))
    clear hcm hcb hcg hck
    clear HB1 HS1 HR1 HP1
    refine hK.out _ _ HS2.out (fun HS => ?_)
    clear hK K
    try simp only [Act.put, zA]
    refine qR 5 fun K hK => ?_
    go_simp
    refine hK.out _ _ (HS2.out.bel ((Below.refl y2.heap.size y2).alloc (nl _) (.map #[] 0))) (fun HS => ?_)
    clear hK K
    try simp only [Act.put, zA]
    have hcb : Below y2.heap.size y2 (y2.alloc (.map #[] 0)) := (Below.refl _ _).alloc (nl _) _
    have HM3 := hid (BMp.made y2)
    have HGM : Hid (wr.heap.size ≤ y2.heap.size) := hid HB2.out.size
    have HB3 := hid (HB2.out.trans (hcb.mono HB2.out.size))
    have HS3 := hid (HS2.out.bel hcb)
    have HR3 := hid (HR2.out.keep (hcb.block _ HR2.out.lt))
    have HC3 := hid (HC2.out.keep (hcb.block _ HC2.out.blk.lt) (hcb.block _ HC2.out.row.lt))
    have HP3 := hid (HP2.out.keep (hcb.block _ HP2.out.lt))
    clear hcb HS
    clear HB2 HS2 HR2 HC2 HP2
    generalize y2.alloc (.map #[] 0) = y3 at *
    generalize y2.heap.size = pm at *
    have HS := HS3.out
    refine qT 11 ?vr16u11 ?yr16u11 HS ?rr16u11
    case yr16u11 => refine qI fun wS hSw => ?_; go_simp; try with_reducible rfl
    try simp only [Act.put, zA]
    refine qR 13 fun K hK => ?_
    refine wp_storeS 128 _ _ rfl HP3.out (plC (.map (some pm)) (.pointer (some ⟨rq, 0, none⟩)) none 0 0) rfl Tryz.sizePlan (fun u hu => by simp [plC] at hu; rcases hu with rfl | rfl | rfl <;> rfl) rfl rfl ?_
    intro y4 hcn hcg
    have hk0 : ∀ x, x < y3.heap.size → x ≠ pb → y4.heap[x]? = y3.heap[x]? := fun x hx hn => hcg.block x hx (fun e => hn (by injection e))
    have HPW : Hid (PW wr y4 rc pb pm rq kq [] s) := hid ⟨HB3.out.grown hcg HB3.out.size (fun k hk => by injection hk with hk; have := HGP.out; omega), HR3.out.keep (hk0 _ HR3.out.lt HNE.out), hcn, HM3.out.keep (hk0 _ HM3.out.lt (HM3.out.ne HP3.out)), HC3.out.keep (hk0 _ HC3.out.blk.lt (Blk.ne HC3.out.blk HP3.out (by decide))) (hk0 _ HC3.out.row.lt (Blk.ne HC3.out.row HP3.out (by decide))), HNE.out, HRC.out, HGP.out, HGM.out, HGC.out.1, HGC.out.2⟩
    have HS4 := hid (HS3.out.keep (hk0 _ HS3.out.lt.1 (fun e => by have := HGP.out; have := HLT.out.1; omega)) (hk0 _ HS3.out.lt.2.1 (fun e => by have := HGP.out; have := HLT.out.2.1; omega)) (hk0 _ HS3.out.lt.2.2.1 (fun e => by have := HGP.out; have := HLT.out.2.2.1; omega)) (hk0 _ HS3.out.lt.2.2.2 (fun e => by have := HGP.out; have := HLT.out.2.2.2; omega)))
    clear hk0 hcn hcg
    refine hK.out _ _ HS4.out (fun HS => ?_)
    clear hK K
    try simp only [Act.put]
    refine qD ?_
    clear HS
    go_wp2_with fail
    go_meet
    case rel => exact ⟨pb, pm, rq, kq, rfl, HPW⟩
 case rest =>
 obtain ⟨pb, pm, rq, kq, rfl, HP0⟩ := hcut
 rename World => w0
 clear hmm HB0 HR0 hrc
 have HP1 := hid (HP0.out.on (w' := w0.drew) ((Below.refl _ _).drew))
 have HS1 := hid (HS.out.bel HP1.out.bel)
 have HMP : Hid (pm ≠ mb) := hid (fun e => by have := HP0.out.ge; have := HS.out.lt; omega)
 clear HP0
 go_wp2_with fail
 refine wp_region_held_drew (S := fun wx => SoB wx gs gd gv gc m L dn mb rb k s ∧ wx.cell? ⟨pb, 0, none⟩ = some (.map (some pm))) (by kernel_rfl) ⟨HS1.out, HP1.out.cells.1⟩ (fun HT => ?_)
 refine qT 0 ?vb0 ?yb0 HT ?rb0
 case yb0 =>
  refine qI fun wS hSw => ?_
  obtain ⟨z0, z1, z2, z3, z4, z5⟩ := SoB.cells hSw.1
  have z6 := hSw.2
  go_simp
  try with_reducible rfl
 try simp only [Act.put, zA]
 refine qT 1 ?vb1 ?yb1 HT ?rb1
 case yb1 =>
  refine qI fun wS hSw => ?_
  obtain ⟨z0, z1, z2, z3, z4, z5⟩ := SoB.cells hSw.1
  have z6 := hSw.2
  go_simp
  try with_reducible rfl
 try simp only [Act.put, zA]
 refine qT 2 ?vb2 ?yb2 HT ?rb2
 case yb2 =>
  refine qI fun wS hSw => ?_
  obtain ⟨z0, z1, z2, z3, z4, z5⟩ := SoB.cells hSw.1
  have z6 := hSw.2
  go_simp
  try with_reducible rfl
 try simp only [Act.put, zA]
 refine qT 3 ?vb3 ?yb3 HT ?rb3
 case yb3 =>
  refine qI fun wS hSw => ?_
  obtain ⟨z0, z1, z2, z3, z4, z5⟩ := SoB.cells hSw.1
  have z6 := hSw.2
  go_simp
  try with_reducible rfl
 try simp only [Act.put, zA]
 refine qT 4 ?vb4 ?yb4 HT ?rb4
 case yb4 =>
  refine qI fun wS hSw => ?_
  obtain ⟨z0, z1, z2, z3, z4, z5⟩ := SoB.cells hSw.1
  have z6 := hSw.2
  go_simp
  try with_reducible rfl
 try simp only [Act.put, zA]
 refine qT 5 ?vb5 ?yb5 HT ?rb5
 case yb5 =>
  refine qI fun wS hSw => ?_
  obtain ⟨z0, z1, z2, z3, z4, z5⟩ := SoB.cells hSw.1
  have z6 := hSw.2
  go_simp
  try with_reducible rfl
 try simp only [Act.put, zA]
 refine qR 6 fun K hK => ?_
 go_simp
 refine (mapsCopy_c pm mb L _ HP1.out.map HS1.out.map HMP.out HR.out (by have := HLL.out; omega)).mono ?_
 rintro e w2 ⟨rfl, hm2, hg2⟩
 have HP2 := hid (HP1.out.put hm2 hg2)
 clear hm2 hg2
 refine hK.out _ _ ⟨HS.out.bel HP2.out.bel, HP2.out.cells.1⟩ (fun HT => ?_)
 clear hK K
 try simp only [Act.put, zA]
 refine qD ?_
 repeat clear HT
 clear HP1 HS1
 go_wp2_with fail
 have HP3 := hid (HP2.out.on (w' := w2.drew) ((Below.refl _ _).drew))
 have HO3 := hid (HO.out.go (HOK.out _ (TS.ok _ _ _ _ _ _ _ _ _ _)) HP3.out.bel)
 clear HP2
 go_cut [7] (fun s7 wx => ∃ nb, s7 = .pointer (some ⟨nb, 0, none⟩) ∧ Hid (PW wr wx rc pb pm rq kq L s) ∧ Hid (Blk wx nb 88 #[.int .i64 0, .int .i64 0, .int .i64 0, .int .i64 (v.L.length : Int), .int .i64 ((c.ver + 1 : Nat) : Int)]) ∧ Hid (wr.heap.size ≤ nb))
 case first =>
  refine wp_region_held_drew (S := fun wx => SoB wx gs gd gv gc m L dn mb rb k s) (by kernel_rfl) (HS.out.bel HP3.out.bel) (fun HT => ?_)
  generalize w2.drew = w3 at *
  refine qT 0 ?vc0 ?yc0 HT ?rc0
  case yc0 =>
   refine qI fun wS hSw => ?_
   obtain ⟨z0, z1, z2, z3, z4, z5⟩ := SoB.cells hSw
   go_simp
   try with_reducible rfl
  try simp only [Act.put, zA]
  refine qT 1 ?vc1 ?yc1 HT ?rc1
  case yc1 =>
   refine qI fun wS hSw => ?_
   obtain ⟨z0, z1, z2, z3, z4, z5⟩ := SoB.cells hSw
   go_simp
   try with_reducible rfl
  try simp only [Act.put, zA]
  refine qT 2 ?vc2 ?yc2 HT ?rc2
  case yc2 =>
   refine qI fun wS hSw => ?_
   obtain ⟨z0, z1, z2, z3, z4, z5⟩ := SoB.cells hSw
   go_simp
   try with_reducible rfl
  try simp only [Act.put, zA]
  refine qT 3 ?vc3 ?yc3 HT ?rc3
  case yc3 =>
   refine qI fun wS hSw => ?_
   obtain ⟨z0, z1, z2, z3, z4, z5⟩ := SoB.cells hSw
   go_simp
   try with_reducible rfl
  try simp only [Act.put, zA]
  refine qT 5 ?vc5 ?yc5 HT ?rc5
  case yc5 =>
   refine qI fun wS hSw => ?_
   obtain ⟨z0, z1, z2, z3, z4, z5⟩ := SoB.cells hSw
   go_simp
   try with_reducible rfl
  try simp only [Act.put, zA]
  refine qT 6 ?vc6 ?yc6 HT ?rc6
  case yc6 =>
   refine qI fun wS hSw => ?_
   obtain ⟨z0, z1, z2, z3, z4, z5⟩ := SoB.cells hSw
   go_simp
   try with_reducible rfl
  try simp only [Act.put, zA]
  refine qT 7 ?vc7 ?yc7 HT ?rc7
  case yc7 =>
   refine qI fun wS hSw => ?_
   obtain ⟨z0, z1, z2, z3, z4, z5⟩ := SoB.cells hSw
   go_simp
   try with_reducible rfl
  try simp only [Act.put, zA]
  refine qT 8 ?vc8 ?yc8 HT ?rc8
  case yc8 =>
   refine qI fun wS hSw => ?_
   obtain ⟨z0, z1, z2, z3, z4, z5⟩ := SoB.cells hSw
   go_simp
   try with_reducible rfl
  try simp only [Act.put, zA]
  refine wpAnyH_ready (rs := [4, 12]) (by kernel_rfl) (by simp) ?_
  refine (AllReadyH.cons (o := ?oq14) ?hoq14 (fun K hK => ?stepq14) (AllReadyH.cons (o := ?oq112) ?hoq112 (fun K hK => ?stepq112) AllReadyH.nil))
  case hoq14 => simp only [zD, zE, zF]; exact rfl
  case hoq112 => simp only [zD, zE, zF]; exact rfl
  case stepq14 =>
   go_simp
   refine (vsealed_on (hC.comp ((ts_t gs gd gv gc m L dn).comp (tc_v gd d gc c))) HO3.out).mono ?_
   rintro e wz ⟨rfl, rfl⟩
   refine hK.out _ _ (HS.out.bel HP3.out.bel) (fun HT => ?_)
   clear hK K
   try simp only [Act.put, zA]
   refine wpAnyH_ready (rs := [9, 12]) (by kernel_rfl) (by simp) ?_
   refine (AllReadyH.cons (o := ?oq29) ?hoq29 (fun K hK => ?stepq29) (AllReadyH.cons (o := ?oq212) ?hoq212 (fun K hK => ?stepq212) AllReadyH.nil))
   case hoq29 => simp only [zD, zE, zF]; exact rfl
   case hoq212 => simp only [zD, zE, zF]; exact rfl
   case stepq29 =>
    go_simp
    refine (cver_c (hC.comp ((ts_t gs gd gv gc m L dn).comp (tc_c gd d gv v))) HO3.out).mono ?_
    rintro e wz ⟨rfl, rfl⟩
    refine hK.out _ _ (HS.out.bel HP3.out.bel) (fun HT => ?_)
    clear hK K
    try simp only [Act.put, zA]
    refine qT 10 ?vq3x10 ?yq3x10 HT ?rq3x10
    case yq3x10 =>
     refine qI fun wS hSw => ?_
     have z9 := hq1
     go_simp
     try with_reducible rfl
    try simp only [Act.put, zA]
    refine qT 11 ?vq3x11 ?yq3x11 HT ?rq3x11
    case yq3x11 => refine qI fun wS hSw => ?_; go_simp; try with_reducible rfl
    try simp only [Act.put, zA]
    refine qR 12 fun K hK => ?_
    go_simp
    refine hK.out _ _ (HS.out.bel (HP3.out.on ((Below.refl w3.heap.size w3).alloc (nl _) (.cells #[.int .i64 0, .int .i64 0, .int .i64 0, .int .i64 0, .int .i64 0] 88))).bel) (fun HT => ?_)
    clear hK K
    try simp only [Act.put, zA]
    refine qR 13 fun K hK => ?_
    have HP4 := hid (HP3.out.on ((Below.refl w3.heap.size w3).alloc (nl _) (.cells #[.int .i64 0, .int .i64 0, .int .i64 0, .int .i64 0, .int .i64 0] 88)))
    have HN3 := hid (Blk.new w3 88 #[.int .i64 0, .int .i64 0, .int .i64 0, .int .i64 0, .int .i64 0])
    have HG3 : Hid (wr.heap.size ≤ w3.heap.size) := hid HP3.out.bel.size
    generalize w3.alloc (.cells #[.int .i64 0, .int .i64 0, .int .i64 0, .int .i64 0, .int .i64 0] 88) = w4 at *
    generalize w3.heap.size = nb at *
    refine wp_storeS 88 _ _ rfl HN3.out (pgQ ⟨⟨0, 0, 0⟩, (v.L.length : Int), ((c.ver + 1 : Nat) : Int)⟩) rfl Tryz.sizePg (fun u hu => by simp [pgQ] at hu; rcases hu with rfl | rfl | rfl | rfl | rfl <;> rfl) rfl rfl ?_
    intro w5 hcn hcg
    have HP5 := hid (HP4.out.but HN3.out (by decide) (by decide) (by decide) hcg HG3.out)
    have HN5 := hid hcn
    clear hcn hcg
    refine hK.out _ _ (HS.out.bel HP5.out.bel) (fun HT => ?_)
    clear hK K
    try simp only [Act.put]
    refine qD ?_
    clear HT
    go_wp2_with fail
    go_meet
    case rel => exact ⟨nb, rfl, HP5, HN5, HG3⟩
   case stepq212 =>
    go_simp
    refine hK.out _ _ (HS.out.bel (HP3.out.on ((Below.refl w3.heap.size w3).alloc (nl _) (.cells #[.int .i64 0, .int .i64 0, .int .i64 0, .int .i64 0, .int .i64 0] 88))).bel) (fun HT => ?_)
    clear hK K
    try simp only [Act.put, zA]
    refine qR 9 fun K hK => ?_
    go_simp
    refine (cver_c (hC.comp ((ts_t gs gd gv gc m L dn).comp (tc_c gd d gv v))) (HO3.out.go (HOK.out _ (TS.ok _ _ _ _ _ _ _ _ _ _)) ((Below.refl w3.heap.size w3).alloc (nl _) (.cells #[.int .i64 0, .int .i64 0, .int .i64 0, .int .i64 0, .int .i64 0] 88)))).mono ?_
    rintro e wz ⟨rfl, rfl⟩
    refine hK.out _ _ (HS.out.bel (HP3.out.on ((Below.refl w3.heap.size w3).alloc (nl _) (.cells #[.int .i64 0, .int .i64 0, .int .i64 0, .int .i64 0, .int .i64 0] 88))).bel) (fun HT => ?_)
    clear hK K
    try simp only [Act.put, zA]
    refine qT 10 ?vq510 ?yq510 HT ?rq510
    case yq510 =>
     refine qI fun wS hSw => ?_
     have z9 := hq1
     go_simp
     try with_reducible rfl
    try simp only [Act.put, zA]
    refine qT 11 ?vq511 ?yq511 HT ?rq511
    case yq511 => refine qI fun wS hSw => ?_; go_simp; try with_reducible rfl
    try simp only [Act.put, zA]
    refine qR 13 fun K hK => ?_
    have HP4 := hid (HP3.out.on ((Below.refl w3.heap.size w3).alloc (nl _) (.cells #[.int .i64 0, .int .i64 0, .int .i64 0, .int .i64 0, .int .i64 0] 88)))
    have HN3 := hid (Blk.new w3 88 #[.int .i64 0, .int .i64 0, .int .i64 0, .int .i64 0, .int .i64 0])
    have HG3 : Hid (wr.heap.size ≤ w3.heap.size) := hid HP3.out.bel.size
    generalize w3.alloc (.cells #[.int .i64 0, .int .i64 0, .int .i64 0, .int .i64 0, .int .i64 0] 88) = w4 at *
    generalize w3.heap.size = nb at *
    refine wp_storeS 88 _ _ rfl HN3.out (pgQ ⟨⟨0, 0, 0⟩, (v.L.length : Int), ((c.ver + 1 : Nat) : Int)⟩) rfl Tryz.sizePg (fun u hu => by simp [pgQ] at hu; rcases hu with rfl | rfl | rfl | rfl | rfl <;> rfl) rfl rfl ?_
    intro w5 hcn hcg
    have HP5 := hid (HP4.out.but HN3.out (by decide) (by decide) (by decide) hcg HG3.out)
    have HN5 := hid hcn
    clear hcn hcg
    refine hK.out _ _ (HS.out.bel HP5.out.bel) (fun HT => ?_)
    clear hK K
    try simp only [Act.put]
    refine qD ?_
    clear HT
    go_wp2_with fail
    go_meet
    case rel => exact ⟨nb, rfl, HP5, HN5, HG3⟩
  case stepq112 =>
   go_simp
   refine hK.out _ _ (HS.out.bel (HP3.out.on ((Below.refl w3.heap.size w3).alloc (nl _) (.cells #[.int .i64 0, .int .i64 0, .int .i64 0, .int .i64 0, .int .i64 0] 88))).bel) (fun HT => ?_)
   clear hK K
   try simp only [Act.put, zA]
   refine qR 4 fun K hK => ?_
   go_simp
   refine (vsealed_on (hC.comp ((ts_t gs gd gv gc m L dn).comp (tc_v gd d gc c))) (HO3.out.go (HOK.out _ (TS.ok _ _ _ _ _ _ _ _ _ _)) ((Below.refl w3.heap.size w3).alloc (nl _) (.cells #[.int .i64 0, .int .i64 0, .int .i64 0, .int .i64 0, .int .i64 0] 88)))).mono ?_
   rintro e wz ⟨rfl, rfl⟩
   refine hK.out _ _ (HS.out.bel (HP3.out.on ((Below.refl w3.heap.size w3).alloc (nl _) (.cells #[.int .i64 0, .int .i64 0, .int .i64 0, .int .i64 0, .int .i64 0] 88))).bel) (fun HT => ?_)
   clear hK K
   try simp only [Act.put, zA]
   refine qR 9 fun K hK => ?_
   go_simp
   refine (cver_c (hC.comp ((ts_t gs gd gv gc m L dn).comp (tc_c gd d gv v))) (HO3.out.go (HOK.out _ (TS.ok _ _ _ _ _ _ _ _ _ _)) ((Below.refl w3.heap.size w3).alloc (nl _) (.cells #[.int .i64 0, .int .i64 0, .int .i64 0, .int .i64 0, .int .i64 0] 88)))).mono ?_
   rintro e wz ⟨rfl, rfl⟩
   refine hK.out _ _ (HS.out.bel (HP3.out.on ((Below.refl w3.heap.size w3).alloc (nl _) (.cells #[.int .i64 0, .int .i64 0, .int .i64 0, .int .i64 0, .int .i64 0] 88))).bel) (fun HT => ?_)
   clear hK K
   try simp only [Act.put, zA]
   refine qT 10 ?vq810 ?yq810 HT ?rq810
   case yq810 =>
    refine qI fun wS hSw => ?_
    have z9 := hq1
    go_simp
    try with_reducible rfl
   try simp only [Act.put, zA]
   refine qT 11 ?vq811 ?yq811 HT ?rq811
   case yq811 => refine qI fun wS hSw => ?_; go_simp; try with_reducible rfl
   try simp only [Act.put, zA]
   refine qR 13 fun K hK => ?_
   have HP4 := hid (HP3.out.on ((Below.refl w3.heap.size w3).alloc (nl _) (.cells #[.int .i64 0, .int .i64 0, .int .i64 0, .int .i64 0, .int .i64 0] 88)))
   have HN3 := hid (Blk.new w3 88 #[.int .i64 0, .int .i64 0, .int .i64 0, .int .i64 0, .int .i64 0])
   have HG3 : Hid (wr.heap.size ≤ w3.heap.size) := hid HP3.out.bel.size
   generalize w3.alloc (.cells #[.int .i64 0, .int .i64 0, .int .i64 0, .int .i64 0, .int .i64 0] 88) = w4 at *
   generalize w3.heap.size = nb at *
   refine wp_storeS 88 _ _ rfl HN3.out (pgQ ⟨⟨0, 0, 0⟩, (v.L.length : Int), ((c.ver + 1 : Nat) : Int)⟩) rfl Tryz.sizePg (fun u hu => by simp [pgQ] at hu; rcases hu with rfl | rfl | rfl | rfl | rfl <;> rfl) rfl rfl ?_
   intro w5 hcn hcg
   have HP5 := hid (HP4.out.but HN3.out (by decide) (by decide) (by decide) hcg HG3.out)
   have HN5 := hid hcn
   clear hcn hcg
   refine hK.out _ _ (HS.out.bel HP5.out.bel) (fun HT => ?_)
   clear hK K
   try simp only [Act.put]
   refine qD ?_
   clear HT
   go_wp2_with fail
   go_meet
   case rel => exact ⟨nb, rfl, HP5, HN5, HG3⟩
 case rest =>
 obtain ⟨nb, rfl, HP4, HN4, HGN⟩ := hcut
 clear HP3 HO3 hq1
 go_wp2_with fail
 go_loopg [49] n (fun kk iv w2 => ∃ (j : Nat) (nx : List Bb) (id : Nat) (fr : List Nat) (dead : Bool) (ws : List (Bb × List UInt8)) (s' : Sp) (kx : Ky), iv = .int .i64 (j : Int) ∧ Hid (kk = n - j) ∧ Hid (j ≤ n) ∧ Hid (plan v.G c.ver ((l.take j).map Hc.ch) ⟨L, v.L.length, frs m L, false, []⟩ = some ⟨nx, id, fr, dead, ws⟩) ∧
  Hid (PW wr w2 rc pb pm rq kq nx s') ∧ Hid (Fo s' m fr) ∧ Hid (Blk w2 nb 88 #[.int .i64 kx.t, .int .i64 kx.c, .int .i64 kx.e, .int .i64 (id : Int), .int .i64 ((c.ver + 1 : Nat) : Int)]) ∧ Hid (nx.length ≤ 1000 + j) ∧ Hid (id ≤ 100000000 + j))
 case atStart => exact ⟨0, L, v.L.length, frs m L, false, [], s, ⟨0, 0, 0⟩, rfl, hid (by omega), hid (Nat.zero_le _), hid rfl, HP4, hid HS.out.rm.fo, HN4, hid (by have := HLL.out; omega), hid (by have := HVL.out; omega)⟩
 case round =>
 obtain ⟨j, nx, id, fr, dead, ws, s', kx, rfl, hgk, hj, hpl, hP, hF, hN, hnl, hid'⟩ := hrel
 clear HP4 HN4
 rename World => w2
 rcases Nat.lt_or_ge j n with hlt | hge
 · have HJN := hid hlt
   have hjl : j < l.length := by rw [HLN.out]; exact hlt
   have j1 : (0 : Int) ≤ (j : Int) := by omega
   have j2 : (j : Int) < (n : Int) := by omega
   have j3 : decide ((j : Int) < (n : Int)) = true := by simpa using hlt
   have j4 : decide (j < n) = true := by simpa using hlt
   have wj : wrap64 ((j : Int) + 1) = ((j + 1 : Nat) : Int) := by have := HN.out; unfold wrap64; omega
   obtain ⟨lb, off, rfl, -, hbl, hr0, hx0⟩ := (HH.out.keep hP.out.bel.size (fun q _ hq => hP.out.bel.block q hq)).at_ hjl
   have HX := hid hx0
   have HXM := hid (List.getElem_mem hjl)
   have HTK := hid (List.take_succ_eq_append_getElem hjl)
   have HTK : Hid ((l.take (j + 1)).map Hc.ch = (l.take j).map Hc.ch ++ [l[j].ch]) := hid (by rw [List.take_succ_eq_append_getElem hjl, List.map_append]; rfl)
   have HDR : Hid (l = l.take (j + 1) ++ l.drop (j + 1)) := hid (List.take_append_drop _ _).symm
   generalize l[j] = x at *
   have HXL := hid (HL.out x HXM.out)
   obtain ⟨c0, c1, c2, c3, c4, c5⟩ := range6 hr0
   have hb2 : Below w2.heap.size w2 (w2.alloc (.cells #[.string (str (x).nm), .int .i64 (x).k.t, .int .i64 (x).k.c, .int .i64 (x).k.e, .slice (x).A (x).n (x).c, .bool (x).dr] 94)) := (Below.refl _ _).alloc (nl _) _
   have hk2 := Blk.new w2 94 #[.string (str (x).nm), .int .i64 (x).k.t, .int .i64 (x).k.c, .int .i64 (x).k.e, .slice (x).A (x).n (x).c, .bool (x).dr]
   have HK2 := hid hk2
   obtain ⟨x0, x1, x2, x3, x4, x5⟩ := hcB_cells (x := x) hk2
   have hP2 := hP.out.on hb2
   have HP2 := hid hP2
   have HN2 := hid (hN.out.keep (hb2.block _ hN.out.lt))
   obtain ⟨p0, p1, p2⟩ := hP.out.cells
   obtain ⟨y0, y1, y2⟩ := hP2.cells
   have HBL : Hid (x.body.length = x.n) := hid HX.out.b.1
   clear hlt hjl hbl hr0 hx0 hb2 hk2 hP2 hP hN
   cases hdr : x.dr
   case true =>
    have HPL : Hid (plan v.G c.ver ((l.take (j + 1)).map Hc.ch) ⟨L, v.L.length, frs m L, false, []⟩ = some ⟨without nx x.nm, id, fr, dead, ws⟩) := hid (by
     rw [HTK.out, plan_snoc, hpl.out]
     show pl1 v.G c.ver ⟨nx, id, fr, dead, ws⟩ x.ch = _
     unfold pl1
     rw [if_pos (show x.ch.drop = true from hdr)]
     rfl)
    have HLW : Hid ((without nx x.nm).length ≤ nx.length) := hid (List.length_filter_le _ _)
    obtain ⟨w3, hdel, hm3, hg3⟩ := HP2.out.map.del HX.out.nm 0
    rw [hdr] at hdel c5
    have hdel2 : ∀ ty, (Builtin.delete_ #[122, 9] ty #[.map (some pm), .string (str x.nm)]).run Tryz.prog (w2.alloc (.cells #[.string (str x.nm), .int .i64 x.k.t, .int .i64 x.k.c, .int .i64 x.k.e, .slice x.A x.n x.c, .bool true] 94)) = .ok (.tuple #[]) w3 := fun ty => hdel
    have HP3 := hid (HP2.out.put hm3 hg3)
    have HN3 := hid (HP2.out.put_keep hg3 HN2.out)
    rw [hdr] at y0 y1 y2 x0 x1 x2 x3 x4 x5
    clear hdr hdel hm3 hg3 HP2 HN2 HK2 hpl
    go_wp2_with fail
    go_roundg (n - (j + 1))
    case measure => have := hgk.out; have := HJN.out; omega
    case rel => exact ⟨j + 1, without nx x.nm, id, fr, dead, ws, s', kx, by first | rfl | rw [wj], hid rfl, hid HJN.out, HPL, HP3, hF, HN3, hid (by have := hnl.out; have := HLW.out; omega), hid (by have := hid'.out; omega)⟩
   case false =>
   have HDF := hid hdr
   have HDE : Hid ((w2.alloc (.cells #[.string (str x.nm), .int .i64 x.k.t, .int .i64 x.k.c, .int .i64 x.k.e, .slice x.A x.n x.c, .bool false] 94)) = w2.alloc (.cells #[.string (str (x).nm), .int .i64 (x).k.t, .int .i64 (x).k.c, .int .i64 (x).k.e, .slice (x).A (x).n (x).c, .bool (x).dr] 94)) := hid (by rw [hdr])
   rw [hdr] at c5 y0 y1 y2 x0 x1 x2 x3 x4 x5
   clear hdr
   go_wp2_with fail
   rw [HDE.out]
   clear HDE x0 x1 x2 x3 x4 x5 y0 y1 y2 c0 c1 c2 c3 c4 c5 p0 p1 p2
   refine (take_any _ rq kq s' HP2.out.room).mono ?_
   rintro e w3 ⟨rfl, hL3⟩
   have HP3 := hid (HP2.out.left hL3)
   have HK3 := hid (HP2.out.left_keep hL3 HK2.out (by decide))
   have HN3 := hid (HP2.out.left_keep hL3 HN2.out (by decide))
   generalize w2.heap.size = bx at *
   generalize w2.alloc (.cells #[.string (str (x).nm), .int .i64 (x).k.t, .int .i64 (x).k.c, .int .i64 (x).k.e, .slice (x).A (x).n (x).c, .bool (x).dr] 94) = w2' at *
   clear hL3 HP2 HK2 HN2
   obtain ⟨x0, x1, x2, x3, x4, x5⟩ := hcB_cells (x := x) HK3.out
   obtain ⟨y0, y1, y2⟩ := HP3.out.cells
   have hk3 := HN3.out
   obtain ⟨n0, n1, n2, n3, n4⟩ := pg5_cells (q := ⟨kx, (id : Int), ((c.ver + 1 : Nat) : Int)⟩) hk3
   cases hfr : fr with
   | nil =>
    subst hfr
    have ha : s'.any = false := hF.out.none_
    have HE : Hid (plan v.G c.ver (l.map Hc.ch) ⟨L, v.L.length, frs m L, false, []⟩ = none) := hid (by
     have e : l.map Hc.ch = ((l.take j).map Hc.ch ++ [x.ch]) ++ (l.drop (j + 1)).map Hc.ch := by
      rw [← HTK.out, ← List.map_append, ← HDR.out]
     rw [e, plan_app, plan_snoc, hpl.out]
     show (pl1 v.G c.ver ⟨nx, id, [], dead, ws⟩ x.ch).bind _ = none
     unfold pl1
     rw [if_neg (show ¬ x.ch.drop = true by rw [show x.ch.drop = x.dr from rfl, HDF.out]; simp)]
     rfl)
    rw [ha]
    have hres := HP3.out.res
    clear ha hpl hk3 n0 n1 n2 n3 n4
    go_wp2_with (refine wpList_storeS rfl 128 _ _ rfl hres (plC (.map none) (.pointer none) none 0 0) rfl Tryz.sizePlan (fun u hu => by simp [plC] at hu; rcases hu with rfl | rfl | rfl <;> rfl) rfl rfl ?_)
    intro w4 hr4 hg4
    have HB4 : Hid (Below wr.heap.size wr w4) := hid (HP3.out.bel.grown hg4 HP3.out.bel.size (fun k hk => by injection hk with hk; have := HRC.out; omega))
    clear hg4 hres x0 x1 x2 x3 x4 x5 y0 y1 y2 HP3 HK3 HN3 hF
    go_wp2
    refine bodyPost_ret (res_Pl rfl hr4 rfl rfl) rfl (.inl ⟨HE.out, rfl, HB4.out⟩)
   | cons f r =>
    subst hfr
    obtain ⟨ha, ht, hF3, hfm⟩ := hF.out.some_
    have HF3 := hid hF3
    rw [ha, ht]
    clear hF hF3 hfm
    have hid1 := up1k (n := id) (by have := hid'.out; have := HJN.out; have := HN.out; omega)
    have hid2 : wrap64 ((id : Int) + 1) = ((id + 1 : Nat) : Int) := by have := hid'.out; have := HJN.out; have := HN.out; unfold wrap64; omega
    clear ha ht n0 n1 n2 n3 n4
    go_wp2_with (refine wpList_storeK rfl _ _ rfl hk3 rfl x.k rfl ?_)
    intro w4 hN4 hg4
    have HP4 := hid (HP3.out.but HN3.out (by decide) (by decide) (by decide) hg4 HGN.out)
    have HK4 := hid (HK3.out.keep (hg4.block _ HK3.out.lt (fun e => Blk.ne HK3.out HN3.out (by decide) (by injection e))))
    have HN4 := hid hN4
    clear x0 x1 x2 x3 x4 x5 y0 y1 y2 hk3 hg4 hN4 HP3 HK3 HN3
    obtain ⟨x0, x1, x2, x3, x4, x5⟩ := hcB_cells (x := x) HK4.out
    obtain ⟨y0, y1, y2⟩ := HP4.out.cells
    obtain ⟨n0, n1, n2, n3, n4⟩ := pg5_cells (q := ⟨x.k, (id : Int), ((c.ver + 1 : Nat) : Int)⟩) HN4.out
    have hfz : w4.frozen? ⟨nb, 3, none⟩ = false := HN4.out.frozen 3
    go_upto_region 14 with fail
    clear hfz
    have hg5 := grown_setCell w4 nb 3 (.int .i64 ((id : Int) + 1))
    have hN5 := HN4.out.store 3 (.int .i64 ((id : Int) + 1))
    have HP5 := hid (HP4.out.but HN4.out (by decide) (by decide) (by decide) hg5 HGN.out)
    have HK5 := hid (HK4.out.keep (hg5.block _ HK4.out.lt (fun e => Blk.ne HK4.out HN4.out (by decide) (by injection e))))
    have HN5 : Hid (Blk (w4.setCell ⟨nb, 3, none⟩ (.int .i64 ((id : Int) + 1))) nb 88 #[.int .i64 x.k.t, .int .i64 x.k.c, .int .i64 x.k.e, .int .i64 ((id : Int) + 1), .int .i64 ((c.ver + 1 : Nat) : Int)]) := hid hN5
    clear hg5 hN5 x0 x1 x2 x3 x4 x5 y0 y1 y2 n0 n1 n2 n3 n4 HP4 HK4 HN4 hid1 hid2
    generalize w4.setCell ⟨nb, 3, none⟩ (.int .i64 ((id : Int) + 1)) = w5 at *
    obtain ⟨x0, x1, x2, x3, x4, x5⟩ := hcB_cells (x := x) HK5.out
    obtain ⟨y0, y1, y2⟩ := HP5.out.cells
    obtain ⟨n0, n1, n2, n3, n4⟩ := pg5_cells (q := ⟨x.k, (id : Int) + 1, ((c.ver + 1 : Nat) : Int)⟩) HN5.out
    go_wp2_with (at_mapUpdate; refine wpList_bmPut rfl _ _ _ rfl HP5.out.map rfl ⟨x.nm, x.k, (f : Int), ⟨x.k, (id : Int) + 1, ((c.ver + 1 : Nat) : Int)⟩, (x.n : Int)⟩ rfl rfl HX.out.nm (by have := hnl.out; have := HJN.out; have := HN.out; unfold maxLen; omega) ?_)
    intro w6 hm6 hg6
    have HN6 := hid (HP5.out.put_keep hg6 HN5.out)
    have HP6 : Hid (PW wr w6 rc pb pm rq kq (with_ (without nx x.nm) (newB x.ch f id c.ver)) s'.take) := hid (by
     have e : newB x.ch f id c.ver = ⟨x.nm, x.k, (f : Int), ⟨x.k, (id : Int) + 1, ((c.ver + 1 : Nat) : Int)⟩, (x.n : Int)⟩ := by
      unfold newB
      rw [← HBL.out]
      rfl
     rw [e]
     exact HP5.out.put hm6 hg6)
    have HPL : Hid (plan v.G c.ver ((l.take (j + 1)).map Hc.ch) ⟨L, v.L.length, frs m L, false, []⟩ = some ⟨with_ (without nx x.nm) (newB x.ch f id c.ver), id + 1, r, dead || decide (x.k ∈ v.G), ws ++ [(newB x.ch f id c.ver, x.body)]⟩) := hid (by
     rw [HTK.out, plan_snoc, hpl.out]
     show pl1 v.G c.ver ⟨nx, id, f :: r, dead, ws⟩ x.ch = _
     unfold pl1
     rw [if_neg (show ¬ x.ch.drop = true by rw [show x.ch.drop = x.dr from rfl, HDF.out]; simp)]
     rfl)
    have HLW : Hid ((with_ (without nx x.nm) (newB x.ch f id c.ver)).length ≤ nx.length + 1) := hid (by rw [with_len]; exact Nat.succ_le_succ (List.length_filter_le _ _))
    clear hm6 hg6 HP5 HK5 HN5 x0 x1 x2 x3 x4 x5 y0 y1 y2 n0 n1 n2 n3 n4 hpl
    go_wp2_with fail
    go_roundg (n - (j + 1))
    case measure => have := hgk.out; have := HJN.out; omega
    case rel => exact ⟨j + 1, _, id + 1, r, _, _, s'.take, x.k, by first | rfl | rw [wj], hid rfl, hid HJN.out, HPL, HP6, HF3, HN6, hid (by have := hnl.out; have := HLW.out; omega), hid (by have := hid'.out; omega)⟩
 · have hjn : n = j := by have := hj.out; omega
   have HT : Hid (l.take j = l) := hid (by rw [← hjn, ← HLN.out, List.take_length])
   obtain rfl : n = j := hjn
   have j2 : ¬ (n : Int) < (n : Int) := by omega
   have HPL : Hid (plan v.G c.ver (l.map Hc.ch) ⟨L, v.L.length, frs m L, false, []⟩ = some ⟨nx, id, fr, dead, ws⟩) := hid (by have := hpl.out; rwa [HT.out] at this)
   have HPI := hid (PI.plan (frs_nodup m L) (fun f hf b hb => (frs_mem.1 hf).2 b hb) (l.map Hc.ch) [] ⟨L, v.L.length, frs m L, false, []⟩ _ (PI.init_ HR.out HI.out) (by simpa using HD.out) HPL.out)
   have HG : Hid (Gv s' m L (ws.map fun w => w.1.b.toNat) []) := hid (hF.out.gv HPI.out.fr)
   have HWN : Hid (∀ f : Nat, f ∈ ws.map (fun w => w.1.b.toNat) → ∀ y ∈ L, y.b ≠ (f : Int)) := hid (fun f hf y hy => (frs_mem.1 (show f ∈ frs m L by have := HPI.out.fr; dsimp only at this; rw [← this]; exact List.mem_append_left _ hf)).2 y hy)
   have HPE := hP
   clear hge hj hgk hpl hF hN hP
   go_wp2_with fail
   go_loopg [92] n (fun kk iv w3 => ∃ (j : Nat) (s2 : Sp), iv = .int .i64 (j : Int) ∧ Hid (kk = n - j) ∧ Hid (j ≤ n) ∧ Hid (PW wr w3 rc pb pm rq kq nx s2) ∧ Hid (Gv s2 m L (ws.map fun w => w.1.b.toNat) (((l.take j).map Hc.ch).map Ch.nm)))
   case atStart => exact ⟨0, s', rfl, hid (by omega), hid (Nat.zero_le _), HPE, HG⟩
   case round =>
   obtain ⟨j, s2, rfl, hgk, hj, hP, hG⟩ := hrel
   clear HPE HG j2
   rename World => w3
   rcases Nat.lt_or_ge j n with hlt | hge
   · have HJN := hid hlt
     have hjl : j < l.length := by rw [HLN.out]; exact hlt
     have j1 : (0 : Int) ≤ (j : Int) := by omega
     have j2 : (j : Int) < (n : Int) := by omega
     have j3 : decide ((j : Int) < (n : Int)) = true := by simpa using hlt
     have j4 : decide (j < n) = true := by simpa using hlt
     have wj : wrap64 ((j : Int) + 1) = ((j + 1 : Nat) : Int) := by have := HN.out; unfold wrap64; omega
     obtain ⟨lb, off, rfl, -, hbl, hr0, hx0⟩ := (HH.out.keep hP.out.bel.size (fun q _ hq => hP.out.bel.block q hq)).at_ hjl
     have HX := hid hx0
     have HXM := hid (List.getElem_mem hjl)
     have HTK := hid (List.take_succ_eq_append_getElem hjl)
     have HTK : Hid (((l.take (j + 1)).map Hc.ch).map Ch.nm = ((l.take j).map Hc.ch).map Ch.nm ++ [l[j].nm]) := hid (by rw [List.take_succ_eq_append_getElem hjl, List.map_append, List.map_append]; rfl)
     have HST := hid (hG.out.step HR.out HI.out HB.out HWN.out l[j].nm)
     generalize l[j] = x at *
     obtain ⟨c0, c1, c2, c3, c4, c5⟩ := range6 hr0
     have hb2 : Below w3.heap.size w3 (w3.alloc (.cells #[.string (str (x).nm), .int .i64 (x).k.t, .int .i64 (x).k.c, .int .i64 (x).k.e, .slice (x).A (x).n (x).c, .bool (x).dr] 94)) := (Below.refl _ _).alloc (nl _) _
     have HK2 := hid (Blk.new w3 94 #[.string (str (x).nm), .int .i64 (x).k.t, .int .i64 (x).k.c, .int .i64 (x).k.e, .slice (x).A (x).n (x).c, .bool (x).dr])
     have HP2 := hid (hP.out.on hb2)
     clear hlt hjl hbl hr0 hx0 hb2 hP
     go_wp2_with fail
     generalize w3.heap.size = bx at *
     have HP3 := hid (HP2.out.on (w' := (w3.alloc (.cells #[.string (str (x).nm), .int .i64 (x).k.t, .int .i64 (x).k.c, .int .i64 (x).k.e, .slice (x).A (x).n (x).c, .bool (x).dr] 94)).drew) ((Below.refl _ _).drew))
     have HK3 : Hid (Blk (w3.alloc (.cells #[.string (str (x).nm), .int .i64 (x).k.t, .int .i64 (x).k.c, .int .i64 (x).k.e, .slice (x).A (x).n (x).c, .bool (x).dr] 94)).drew bx 94 #[.string (str (x).nm), .int .i64 (x).k.t, .int .i64 (x).k.c, .int .i64 (x).k.e, .slice (x).A (x).n (x).c, .bool (x).dr]) := hid HK2.out
     have HS3 := hid (HS.out.bel HP3.out.bel)
     clear HP2 HK2 c0 c1 c2 c3 c4 c5
     refine wp_region_held_drew (S := fun wx => wx.cell? ⟨gs, 3, none⟩ = some (.map (some mb)) ∧ Blk wx bx 94 #[.string (str (x).nm), .int .i64 (x).k.t, .int .i64 (x).k.c, .int .i64 (x).k.e, .slice (x).A (x).n (x).c, .bool (x).dr] ∧ BMp wx mb L) (by kernel_rfl) ⟨HS3.out.cells.2.2.2.1, HK3.out, HS3.out.map⟩ (fun HT => ?_)
     generalize (w3.alloc (.cells #[.string (str (x).nm), .int .i64 (x).k.t, .int .i64 (x).k.c, .int .i64 (x).k.e, .slice (x).A (x).n (x).c, .bool (x).dr] 94)).drew = w4 at *
     refine qT 0 ?vd0 ?yd0 HT ?rd0
     case yd0 =>
      refine qI fun wS hSw => ?_
      have y3 := hSw.1
      go_simp
      try with_reducible rfl
     try simp only [Act.put, zA]
     refine qT 1 ?vd1 ?yd1 HT ?rd1
     case yd1 =>
      refine qI fun wS hSw => ?_
      have y3 := hSw.1
      go_simp
      try with_reducible rfl
     try simp only [Act.put, zA]
     refine qT 2 ?vd2 ?yd2 HT ?rd2
     case yd2 =>
      refine qI fun wS hSw => ?_
      have y3 := hSw.1
      go_simp
      try with_reducible rfl
     try simp only [Act.put, zA]
     refine qT 3 ?vd3 ?yd3 HT ?rd3
     case yd3 =>
      refine qI fun wS hSw => ?_
      have y3 := hSw.1
      go_simp
      try with_reducible rfl
     try simp only [Act.put, zA]
     refine qT 4 ?vd4 ?yd4 HT ?rd4
     case yd4 =>
      refine qI fun wS hSw => ?_
      have y3 := hSw.1
      go_simp
      try with_reducible rfl
     try simp only [Act.put, zA]
     refine qT 5 ?vd5 ?yd5 HT ?rd5
     case yd5 =>
      refine qI fun wS hSw => ?_
      have y3 := (hcB_cells (x := x) hSw.2.1).1
      go_simp
      try with_reducible rfl
     try simp only [Act.put, zA]
     refine qT 6 ?vd6 ?yd6 HT ?rd6
     case yd6 =>
      refine qI fun wS hSw => ?_
      have y3 := hSw.2.2.look HX.out.nm
      unfold Bb.val Bb.cells at y3
      go_simp
      try with_reducible rfl
     try simp only [Act.put, zA]
     refine qT 7 ?vd7 ?yd7 HT ?rd7
     case yd7 => refine qI fun wS hSw => ?_; go_simp; try with_reducible rfl
     try simp only [Act.put, zA]
     refine qT 8 ?vd8 ?yd8 HT ?rd8
     case yd8 => refine qI fun wS hSw => ?_; go_simp; try with_reducible rfl
     try simp only [Act.put, zA]
     refine qT 9 ?vd9 ?yd9 HT ?rd9
     case yd9 => refine qI fun wS hSw => ?_; go_simp; try with_reducible rfl
     try simp only [Act.put, zA]
     refine qR 10 fun K hK => ?_
     go_simp
     refine hK.out _ _ ⟨(HS3.out.bel (((Below.refl w4.heap.size w4).alloc (nl _) (.cells #[.string (str (bb0).nm), .int .i64 (bb0).k.t, .int .i64 (bb0).k.c, .int .i64 (bb0).k.e, .int .i64 (bb0).b, .int .i64 (bb0).p.k.t, .int .i64 (bb0).p.k.c, .int .i64 (bb0).p.k.e, .int .i64 (bb0).p.id, .int .i64 (bb0).p.ver, .int .i64 (bb0).sz] 90)))).cells.2.2.2.1, HK3.out.keep ((((Below.refl w4.heap.size w4).alloc (nl _) (.cells #[.string (str (bb0).nm), .int .i64 (bb0).k.t, .int .i64 (bb0).k.c, .int .i64 (bb0).k.e, .int .i64 (bb0).b, .int .i64 (bb0).p.k.t, .int .i64 (bb0).p.k.c, .int .i64 (bb0).p.k.e, .int .i64 (bb0).p.id, .int .i64 (bb0).p.ver, .int .i64 (bb0).sz] 90))).block bx HK3.out.lt), (HS3.out.bel (((Below.refl w4.heap.size w4).alloc (nl _) (.cells #[.string (str (bb0).nm), .int .i64 (bb0).k.t, .int .i64 (bb0).k.c, .int .i64 (bb0).k.e, .int .i64 (bb0).b, .int .i64 (bb0).p.k.t, .int .i64 (bb0).p.k.c, .int .i64 (bb0).p.k.e, .int .i64 (bb0).p.id, .int .i64 (bb0).p.ver, .int .i64 (bb0).sz] 90)))).map⟩ (fun HT => ?_)
     clear hK K
     try simp only [Act.put, zA]
     refine qR 11 fun K hK => ?_
     refine wp_storeB _ _ rfl (Blk.new w4 90 #[.string (str (bb0).nm), .int .i64 (bb0).k.t, .int .i64 (bb0).k.c, .int .i64 (bb0).k.e, .int .i64 (bb0).b, .int .i64 (bb0).p.k.t, .int .i64 (bb0).p.k.c, .int .i64 (bb0).p.k.e, .int .i64 (bb0).p.id, .int .i64 (bb0).p.ver, .int .i64 (bb0).sz]) rfl rfl (getB L x.nm) rfl ?_
     intro w7 hB7 hg7
     have HW7 := hid (new_block hg7)
     have HB7 := hid hB7
     clear hB7 hg7
     refine hK.out _ _ ⟨(HS3.out.bel HW7.out).cells.2.2.2.1, HK3.out.keep (HW7.out.block bx HK3.out.lt), (HS3.out.bel HW7.out).map⟩ (fun HT => ?_)
     clear hK K
     try simp only [Act.put]
     refine qT 12 ?vd12 ?yd12 HT ?rd12
     case yd12 => refine qI fun wS hSw => ?_; go_simp; try with_reducible rfl
     try simp only [Act.put, zA]
     refine qD ?_
     clear HT
     have HP7 := hid (HP3.out.on HW7.out)
     clear HP3 HK3 HS3 HW7
     cases hib : isB L x.nm
     · have HG8 : Hid (Gv s2 m L (ws.map fun w => w.1.b.toNat) (((l.take (j + 1)).map Hc.ch).map Ch.nm)) := hid (by rw [HTK.out]; exact HST.out.2 hib)
       clear hib hG
       go_wp2_with fail
       go_roundg (n - (j + 1))
       case measure => have := hgk.out; have := HJN.out; omega
       case rel => exact ⟨j + 1, s2, by first | rfl | rw [wj], hid rfl, hid HJN.out, HP7, HG8⟩
     · have HG8 : Hid (Gv (s2.give (getB L x.nm).b) m L (ws.map fun w => w.1.b.toNat) (((l.take (j + 1)).map Hc.ch).map Ch.nm)) := hid (by rw [HTK.out]; exact HST.out.1 hib)
       obtain ⟨y0, y1, y2⟩ := HP7.out.cells
       have b4 := (bbB_cells (x := getB L x.nm) HB7.out).2.2.2.2.1
       clear hib hG
       generalize getB L x.nm = y at *
       go_wp2_with fail
       refine (give_any _ rq kq s2 HP7.out.room y.b).mono ?_
       rintro e w8 ⟨rfl, hL8⟩
       have HP8 := hid (HP7.out.left hL8)
       clear hL8 HP7 HB7 y0 y1 y2 b4
       go_wp2_with fail
       go_roundg (n - (j + 1))
       case measure => have := hgk.out; have := HJN.out; omega
       case rel => exact ⟨j + 1, _, by first | rfl | rw [wj], hid rfl, hid HJN.out, HP8, HG8⟩
   · have hjn : n = j := by have := hj.out; omega
     have HT2 : Hid (l.take j = l) := hid (by rw [← hjn, ← HLN.out, List.take_length])
     have HRM : Hid (Rm s2 m nx) := hid (HPI.out.rm (by have := hG.out; rwa [HT2.out] at this))
     obtain rfl : n = j := hjn
     have j2 : ¬ (n : Int) < (n : Int) := by omega
     have HMM : Hid (m ≤ 4096) := hid (by have := HS.out.room.ok.n2; rw [HS.out.rm.len] at this; exact this)
     have HWF : Hid (∀ y ∈ nx, y.wf ∧ y.nm.length ≤ 40) := hid (HPI.out.wf_ HW.out (fun y hy => by
      obtain ⟨z, hz, rfl⟩ := List.mem_map.1 hy
      obtain ⟨z', hz'⟩ := List.mem_iff_getElem.1 hz
      obtain ⟨hz1, hz2⟩ := hz'
      obtain ⟨_, _, _, _, _, _, hc⟩ := HH.out.el z' hz1
      rw [hz2] at hc
      refine ⟨hc.k, (HL.out z hz).1, ?_⟩
      have h1 : z.body.length = z.n := hc.b.1
      have h2 := (HL.out z hz).2
      show z.body.length ≤ _
      omega) (by omega) (fun f hf => by have := (frs_mem.1 hf).1; have := HMM.out; omega) (by rw [List.nil_append, List.length_map, HLN.out]; have := HVL.out; have := HN.out; omega) (by have := HV.out; omega))
     have HDL : Hid ((dirB nx).length ≤ 100000000) := hid (by
      have h1 := entsB_len nx 40 HWF.out
      have h2 := nat_len_u64 (n := nx.length) (by have := hnl.out; have := HN.out; omega)
      have h3 := hnl.out
      have h4 := HN.out
      unfold dirB
      rw [List.length_append]
      omega)
     have hby := byNames_c pm nx w3 hP.out.map HPI.out.rise (by have := hnl.out; have := HN.out; omega) (fun y hy => by have := (HWF.out y hy).2; unfold maxLen; omega)
     obtain ⟨y0, y1, y2⟩ := hP.out.cells
     have HNL := hid (show nx.length ≤ 11000 by have := hnl.out; have := HN.out; omega)
     clear hge hj hgk hG
     go_wp2_with fail
     refine hby.mono ?_
     rintro e w4 ⟨A1, c1, rfl, hr1, hb1⟩
     have HP4 := hid (hP.out.on hb1)
     have hdi := directory_c A1 nx.length c1 nx w4 hr1.sl (fun y hy => (HWF.out y hy).1) (fun y hy => by have := (HWF.out y hy).2; omega) (by have := HNL.out; omega) HDL.out
     clear hby hr1 hb1 y0 y1 y2 hP
     obtain ⟨y0, y1, y2⟩ := HP4.out.cells
     go_wp2_with fail
     refine hdi.mono ?_
     rintro e w5 hrow
     obtain ⟨DA, Dn, Dc, rfl, hdl, hdc, hdo, -, hdb⟩ := hrow.out
     have HP5 := hid (HP4.out.on hdb)
     have HDO := hid hdo
     have HDN := hid hdl
     have HPB := hid HP4.out.p.lt
     have HSZ := hid HP4.out.bel.size
     clear hdi hrow hdl hdc hdo hdb y0 y1 y2 HP4
     obtain ⟨y0, y1, y2⟩ := HP5.out.cells
     have hfz : w5.frozen? ⟨pb, 2, none⟩ = false := HP5.out.p.frozen 2
     go_wp2_with fail
     clear hfz
     have hg6 := grown_setCell w5 pb 2 (.slice DA Dn Dc)
     have hk0 : ∀ x, x < w5.heap.size → x ≠ pb → (w5.setCell ⟨pb, 2, none⟩ (.slice DA Dn Dc)).heap[x]? = w5.heap[x]? := fun x hx hn => hg6.block x hx (fun e => hn (by injection e))
     have HB6 := hid ((HP5.out.bel.grown hg6 HP5.out.bel.size (fun k hk => by injection hk with hk; have := HP5.out.ge; omega)).drew)
     have HR6 : Hid (Blk (w5.setCell ⟨pb, 2, none⟩ (.slice DA Dn Dc)).drew rc 128 #[.map none, .pointer none, .slice none 0 0]) := hid (HP5.out.res.keep (hk0 _ HP5.out.res.lt HP5.out.ne))
     have HK6 : Hid (Blk (w5.setCell ⟨pb, 2, none⟩ (.slice DA Dn Dc)).drew pb 128 #[.map (some pm), .pointer (some ⟨rq, 0, none⟩), .slice DA Dn Dc]) := hid (HP5.out.p.store 2 (.slice DA Dn Dc))
     have HM6 : Hid (BMp (w5.setCell ⟨pb, 2, none⟩ (.slice DA Dn Dc)).drew pm nx) := hid (HP5.out.map.keep (hk0 _ HP5.out.map.lt (HP5.out.map.ne HP5.out.p)))
     have HQ6 : Hid (Mp (w5.setCell ⟨pb, 2, none⟩ (.slice DA Dn Dc)).drew rq kq s2) := hid (HP5.out.room.keep (hk0 _ HP5.out.room.blk.lt (Blk.ne HP5.out.room.blk HP5.out.p (by decide))) (hk0 _ HP5.out.room.row.lt (Blk.ne HP5.out.room.row HP5.out.p (by decide))))
     have HD6 : Hid ((w5.setCell ⟨pb, 2, none⟩ (.slice DA Dn Dc)).drew.ownsRow wr.heap.size 5 1 (.slice DA Dn Dc) Dn (bs (dirB nx))) := hid (ownsRow_base_a (own_keep (w' := (w5.setCell ⟨pb, 2, none⟩ (.slice DA Dn Dc)).drew) HDO.out (fun b hb => hk0 b (own_lt HDO.out b hb) (fun e => by
      have h2 : (Value.slice DA Dn Dc).ownBlock = DA.map (·.block) := by cases DA <;> rfl
      have := (HDO.out.lt b (by rw [h2]; exact hb)).1
      have := HPB.out
      omega))) HSZ.out)
     have HGE := hid HP5.out.ge
     have HCE := hid HP5.out.ne
     clear hg6 hk0 HP5 HDO y0 y1 y2
     by_cases h1 : nx.length ≤ 1000
     · have m1 : decide ((nx.length : Int) ≤ 1000) = true := decide_eq_true (by omega)
       have m2 : decide (nx.length ≤ 1000) = true := decide_eq_true h1
       by_cases h2 : Dn ≤ 65536
       · have n1 : decide ((Dn : Int) ≤ 65536) = true := decide_eq_true (by omega)
         have n2 : decide (Dn ≤ 65536) = true := decide_eq_true h2
         have HV2 : Hid (decide (nx.length ≤ 1000 ∧ (dirB nx).length ≤ 65536) = true) := hid (decide_eq_true ⟨h1, by rw [HDN.out]; exact h2⟩)
         clear h1 h2
         refine wp_region_held_drew (S := fun wx => Blk wx pb 128 #[.map (some pm), .pointer (some ⟨rq, 0, none⟩), .slice DA Dn Dc] ∧ BMp wx pm nx) (by kernel_rfl) ⟨HK6.out, HM6.out⟩ (fun HT => ?_)
         generalize (w5.setCell ⟨pb, 2, none⟩ (.slice DA Dn Dc)).drew = w6 at *
         refine qT 0 ?ve0 ?ye0 HT ?re0
         case ye0 =>
          refine qI fun wS hSw => ?_
          refine Eq.trans (exec_loadPl (.tmp 6) ?_ ?_ hSw.1) ?_
          all_goals rfl
         try simp only [Act.put, zA]
         refine qT 1 ?ve1 ?ye1 HT ?re1
         case ye1 =>
          refine qI fun wS hSw => ?_
          obtain ⟨z0, z1, z2⟩ := plB_cells hSw.1
          have z6 := fun ty => hSw.2.len ty
          go_simp
          try with_reducible rfl
         try simp only [Act.put, zA]
         refine qT 2 ?ve2 ?ye2 HT ?re2
         case ye2 =>
          refine qI fun wS hSw => ?_
          obtain ⟨z0, z1, z2⟩ := plB_cells hSw.1
          have z6 := fun ty => hSw.2.len ty
          go_simp
          try with_reducible rfl
         try simp only [Act.put, zA]
         refine qT 3 ?ve3 ?ye3 HT ?re3
         case ye3 =>
          refine qI fun wS hSw => ?_
          obtain ⟨z0, z1, z2⟩ := plB_cells hSw.1
          have z6 := fun ty => hSw.2.len ty
          go_simp
          try with_reducible rfl
         try simp only [Act.put, zA]
         refine qT 4 ?ve4 ?ye4 HT ?re4
         case ye4 =>
          refine qI fun wS hSw => ?_
          obtain ⟨z0, z1, z2⟩ := plB_cells hSw.1
          have z6 := fun ty => hSw.2.len ty
          go_simp
          try with_reducible rfl
         try simp only [Act.put, zA]
         refine qT 5 ?ve5 ?ye5 HT ?re5
         case ye5 =>
          refine qI fun wS hSw => ?_
          obtain ⟨z0, z1, z2⟩ := plB_cells hSw.1
          have z6 := fun ty => hSw.2.len ty
          go_simp
          try with_reducible rfl
         try simp only [Act.put, zA]
         refine qT 6 ?ve6 ?ye6 HT ?re6
         case ye6 =>
          refine qI fun wS hSw => ?_
          obtain ⟨z0, z1, z2⟩ := plB_cells hSw.1
          have z6 := fun ty => hSw.2.len ty
          go_simp
          try with_reducible rfl
         try simp only [Act.put, zA]
         refine qT 7 ?ve7 ?ye7 HT ?re7
         case ye7 =>
          refine qI fun wS hSw => ?_
          refine Eq.trans (exec_load1 51 (.tmp 124) ?_ Tryz.underlying51 ?_ (plB_cells hSw.1).2.2) ?_
          all_goals rfl
         try simp only [Act.put, zA]
         refine qT 8 ?ve8 ?ye8 HT ?re8
         case ye8 =>
          refine qI fun wS hSw => ?_
          obtain ⟨z0, z1, z2⟩ := plB_cells hSw.1
          have z6 := fun ty => hSw.2.len ty
          go_simp
          try with_reducible rfl
         try simp only [Act.put, zA]
         refine qT 9 ?ve9 ?ye9 HT ?re9
         case ye9 =>
          refine qI fun wS hSw => ?_
          obtain ⟨z0, z1, z2⟩ := plB_cells hSw.1
          have z6 := fun ty => hSw.2.len ty
          go_simp
          try with_reducible rfl
         try simp only [Act.put, zA]
         refine qT 10 ?ve10 ?ye10 HT ?re10
         case ye10 =>
          refine qI fun wS hSw => ?_
          obtain ⟨z0, z1, z2⟩ := plB_cells hSw.1
          have z6 := fun ty => hSw.2.len ty
          go_simp
          try with_reducible rfl
         try simp only [Act.put, zA]
         refine qR 11 fun K hK => ?_
         refine wp_storeS 128 _ _ rfl HR6.out (plC (.map (some pm)) (.pointer (some ⟨rq, 0, none⟩)) DA Dn Dc) rfl Tryz.sizePlan (fun u hu => by simp [plC] at hu; rcases hu with rfl | rfl | rfl <;> rfl) rfl rfl ?_
         intro w7 hcn hcg
         have hk0 : ∀ x, x < w6.heap.size → x ≠ rc → w7.heap[x]? = w6.heap[x]? := fun x hx hn => hcg.block x hx (fun e => hn (by injection e))
         have HB7 := hid (HB6.out.grown hcg HB6.out.size (fun k hk => by injection hk with hk; have := HGE.out; omega))
         have HK7 := hid (HK6.out.keep (hk0 _ HK6.out.lt HCE.out.symm))
         have HM7 := hid (HM6.out.keep (hk0 _ HM6.out.lt (HM6.out.ne HR6.out)))
         have HQ7 := hid (HQ6.out.keep (hk0 _ HQ6.out.blk.lt (Blk.ne HQ6.out.blk HR6.out (by decide))) (hk0 _ HQ6.out.row.lt (Blk.ne HQ6.out.row HR6.out (by decide))))
         have HD7 := hid (own_keep (w' := w7) HD6.out (fun b hb => hk0 b (own_lt HD6.out b hb) (fun e => by
          obtain ⟨_, cap, cur, hv, _, hg, _⟩ := HD6.out.2.resolve_left (fun h => by obtain ⟨h, _⟩ := h; injection h with h; rw [h] at hb; cases hb)
          injection hv with hv
          rw [hv] at hb
          simp at hb
          subst hb
          subst e
          have := HR6.out.symm.trans hg
          injection this with this
          injection this with _ h3 _
          exact absurd h3 (by decide))))
         have HR7 := hid hcn
         clear hk0 hcn hcg
         refine hK.out _ _ ⟨HK7.out, HM7.out⟩ (fun HT => ?_)
         clear hK K
         try simp only [Act.put]
         refine qT 12 ?ve12 ?ye12 HT ?re12
         case ye12 =>
          refine qI fun wS hSw => ?_
          obtain ⟨z0, z1, z2⟩ := plB_cells hSw.1
          have z6 := fun ty => hSw.2.len ty
          go_simp
          try with_reducible rfl
         try simp only [Act.put, zA]
         refine qD ?_
         clear HT
         go_wp2
         refine bodyPost_ret (res_Pl rfl HR7.out rfl rfl) rfl (.inr ⟨⟨nx, id, fr, dead, ws⟩, pm, rq, kq, s2, DA, Dn, Dc, HPL.out, ?_, HB7.out, HM7.out, HQ7.out, HRM.out, HD7.out, HDN.out.symm, HGE.out.2.2.1, HGE.out.2.2.2.1, HGE.out.2.2.2.2⟩)
         rw [HV2.out]
         rfl
       · have n1 : decide ((Dn : Int) ≤ 65536) = false := decide_eq_false (by omega)
         have n2 : decide (Dn ≤ 65536) = false := decide_eq_false h2
         have HV2 : Hid (decide (nx.length ≤ 1000 ∧ (dirB nx).length ≤ 65536) = false) := hid (decide_eq_false (fun e => h2 (by have := e.2; rw [HDN.out] at this; exact this)))
         clear h1 h2
         refine wp_region_held_drew (S := fun wx => Blk wx pb 128 #[.map (some pm), .pointer (some ⟨rq, 0, none⟩), .slice DA Dn Dc] ∧ BMp wx pm nx) (by kernel_rfl) ⟨HK6.out, HM6.out⟩ (fun HT => ?_)
         generalize (w5.setCell ⟨pb, 2, none⟩ (.slice DA Dn Dc)).drew = w6 at *
         refine qT 0 ?vf0 ?yf0 HT ?rf0
         case yf0 =>
          refine qI fun wS hSw => ?_
          refine Eq.trans (exec_loadPl (.tmp 6) ?_ ?_ hSw.1) ?_
          all_goals rfl
         try simp only [Act.put, zA]
         refine qT 1 ?vf1 ?yf1 HT ?rf1
         case yf1 =>
          refine qI fun wS hSw => ?_
          obtain ⟨z0, z1, z2⟩ := plB_cells hSw.1
          have z6 := fun ty => hSw.2.len ty
          go_simp
          try with_reducible rfl
         try simp only [Act.put, zA]
         refine qT 2 ?vf2 ?yf2 HT ?rf2
         case yf2 =>
          refine qI fun wS hSw => ?_
          obtain ⟨z0, z1, z2⟩ := plB_cells hSw.1
          have z6 := fun ty => hSw.2.len ty
          go_simp
          try with_reducible rfl
         try simp only [Act.put, zA]
         refine qT 3 ?vf3 ?yf3 HT ?rf3
         case yf3 =>
          refine qI fun wS hSw => ?_
          obtain ⟨z0, z1, z2⟩ := plB_cells hSw.1
          have z6 := fun ty => hSw.2.len ty
          go_simp
          try with_reducible rfl
         try simp only [Act.put, zA]
         refine qT 4 ?vf4 ?yf4 HT ?rf4
         case yf4 =>
          refine qI fun wS hSw => ?_
          obtain ⟨z0, z1, z2⟩ := plB_cells hSw.1
          have z6 := fun ty => hSw.2.len ty
          go_simp
          try with_reducible rfl
         try simp only [Act.put, zA]
         refine qT 5 ?vf5 ?yf5 HT ?rf5
         case yf5 =>
          refine qI fun wS hSw => ?_
          obtain ⟨z0, z1, z2⟩ := plB_cells hSw.1
          have z6 := fun ty => hSw.2.len ty
          go_simp
          try with_reducible rfl
         try simp only [Act.put, zA]
         refine qT 6 ?vf6 ?yf6 HT ?rf6
         case yf6 =>
          refine qI fun wS hSw => ?_
          obtain ⟨z0, z1, z2⟩ := plB_cells hSw.1
          have z6 := fun ty => hSw.2.len ty
          go_simp
          try with_reducible rfl
         try simp only [Act.put, zA]
         refine qT 7 ?vf7 ?yf7 HT ?rf7
         case yf7 =>
          refine qI fun wS hSw => ?_
          refine Eq.trans (exec_load1 51 (.tmp 124) ?_ Tryz.underlying51 ?_ (plB_cells hSw.1).2.2) ?_
          all_goals rfl
         try simp only [Act.put, zA]
         refine qT 8 ?vf8 ?yf8 HT ?rf8
         case yf8 =>
          refine qI fun wS hSw => ?_
          obtain ⟨z0, z1, z2⟩ := plB_cells hSw.1
          have z6 := fun ty => hSw.2.len ty
          go_simp
          try with_reducible rfl
         try simp only [Act.put, zA]
         refine qT 9 ?vf9 ?yf9 HT ?rf9
         case yf9 =>
          refine qI fun wS hSw => ?_
          obtain ⟨z0, z1, z2⟩ := plB_cells hSw.1
          have z6 := fun ty => hSw.2.len ty
          go_simp
          try with_reducible rfl
         try simp only [Act.put, zA]
         refine qT 10 ?vf10 ?yf10 HT ?rf10
         case yf10 =>
          refine qI fun wS hSw => ?_
          obtain ⟨z0, z1, z2⟩ := plB_cells hSw.1
          have z6 := fun ty => hSw.2.len ty
          go_simp
          try with_reducible rfl
         try simp only [Act.put, zA]
         refine qR 11 fun K hK => ?_
         refine wp_storeS 128 _ _ rfl HR6.out (plC (.map (some pm)) (.pointer (some ⟨rq, 0, none⟩)) DA Dn Dc) rfl Tryz.sizePlan (fun u hu => by simp [plC] at hu; rcases hu with rfl | rfl | rfl <;> rfl) rfl rfl ?_
         intro w7 hcn hcg
         have hk0 : ∀ x, x < w6.heap.size → x ≠ rc → w7.heap[x]? = w6.heap[x]? := fun x hx hn => hcg.block x hx (fun e => hn (by injection e))
         have HB7 := hid (HB6.out.grown hcg HB6.out.size (fun k hk => by injection hk with hk; have := HGE.out; omega))
         have HK7 := hid (HK6.out.keep (hk0 _ HK6.out.lt HCE.out.symm))
         have HM7 := hid (HM6.out.keep (hk0 _ HM6.out.lt (HM6.out.ne HR6.out)))
         have HQ7 := hid (HQ6.out.keep (hk0 _ HQ6.out.blk.lt (Blk.ne HQ6.out.blk HR6.out (by decide))) (hk0 _ HQ6.out.row.lt (Blk.ne HQ6.out.row HR6.out (by decide))))
         have HD7 := hid (own_keep (w' := w7) HD6.out (fun b hb => hk0 b (own_lt HD6.out b hb) (fun e => by
          obtain ⟨_, cap, cur, hv, _, hg, _⟩ := HD6.out.2.resolve_left (fun h => by obtain ⟨h, _⟩ := h; injection h with h; rw [h] at hb; cases hb)
          injection hv with hv
          rw [hv] at hb
          simp at hb
          subst hb
          subst e
          have := HR6.out.symm.trans hg
          injection this with this
          injection this with _ h3 _
          exact absurd h3 (by decide))))
         have HR7 := hid hcn
         clear hk0 hcn hcg
         refine hK.out _ _ ⟨HK7.out, HM7.out⟩ (fun HT => ?_)
         clear hK K
         try simp only [Act.put]
         refine qT 12 ?vf12 ?yf12 HT ?rf12
         case yf12 =>
          refine qI fun wS hSw => ?_
          obtain ⟨z0, z1, z2⟩ := plB_cells hSw.1
          have z6 := fun ty => hSw.2.len ty
          go_simp
          try with_reducible rfl
         try simp only [Act.put, zA]
         refine qD ?_
         clear HT
         go_wp2
         refine bodyPost_ret (res_Pl rfl HR7.out rfl rfl) rfl (.inr ⟨⟨nx, id, fr, dead, ws⟩, pm, rq, kq, s2, DA, Dn, Dc, HPL.out, ?_, HB7.out, HM7.out, HQ7.out, HRM.out, HD7.out, HDN.out.symm, HGE.out.2.2.1, HGE.out.2.2.2.1, HGE.out.2.2.2.2⟩)
         rw [HV2.out]
         rfl
     · have m1 : decide ((nx.length : Int) ≤ 1000) = false := decide_eq_false (by omega)
       have m2 : decide (nx.length ≤ 1000) = false := decide_eq_false h1
       have HV2 : Hid (decide (nx.length ≤ 1000 ∧ (dirB nx).length ≤ 65536) = false) := hid (decide_eq_false (fun e => h1 e.1))
       clear h1
       refine wp_region_held_drew (S := fun wx => Blk wx pb 128 #[.map (some pm), .pointer (some ⟨rq, 0, none⟩), .slice DA Dn Dc] ∧ BMp wx pm nx) (by kernel_rfl) ⟨HK6.out, HM6.out⟩ (fun HT => ?_)
       generalize (w5.setCell ⟨pb, 2, none⟩ (.slice DA Dn Dc)).drew = w6 at *
       refine qT 0 ?vg0 ?yg0 HT ?rg0
       case yg0 =>
        refine qI fun wS hSw => ?_
        refine Eq.trans (exec_loadPl (.tmp 6) ?_ ?_ hSw.1) ?_
        all_goals rfl
       try simp only [Act.put, zA]
       refine qT 1 ?vg1 ?yg1 HT ?rg1
       case yg1 =>
        refine qI fun wS hSw => ?_
        obtain ⟨z0, z1, z2⟩ := plB_cells hSw.1
        have z6 := fun ty => hSw.2.len ty
        go_simp
        try with_reducible rfl
       try simp only [Act.put, zA]
       refine qT 2 ?vg2 ?yg2 HT ?rg2
       case yg2 =>
        refine qI fun wS hSw => ?_
        obtain ⟨z0, z1, z2⟩ := plB_cells hSw.1
        have z6 := fun ty => hSw.2.len ty
        go_simp
        try with_reducible rfl
       try simp only [Act.put, zA]
       refine qT 3 ?vg3 ?yg3 HT ?rg3
       case yg3 =>
        refine qI fun wS hSw => ?_
        obtain ⟨z0, z1, z2⟩ := plB_cells hSw.1
        have z6 := fun ty => hSw.2.len ty
        go_simp
        try with_reducible rfl
       try simp only [Act.put, zA]
       refine qT 4 ?vg4 ?yg4 HT ?rg4
       case yg4 =>
        refine qI fun wS hSw => ?_
        obtain ⟨z0, z1, z2⟩ := plB_cells hSw.1
        have z6 := fun ty => hSw.2.len ty
        go_simp
        try with_reducible rfl
       try simp only [Act.put, zA]
       refine qT 5 ?vg5 ?yg5 HT ?rg5
       case yg5 =>
        refine qI fun wS hSw => ?_
        obtain ⟨z0, z1, z2⟩ := plB_cells hSw.1
        have z6 := fun ty => hSw.2.len ty
        go_simp
        try with_reducible rfl
       try simp only [Act.put, zA]
       refine qT 6 undef ?yg6 HT ?rg6
       case yg6 =>
        refine Or.inr ⟨by rfl, rfl⟩
       try simp only [Act.put, zA]
       refine qT 7 undef ?yg7 HT ?rg7
       case yg7 =>
        refine Or.inr ⟨by rfl, rfl⟩
       try simp only [Act.put, zA]
       refine qT 8 undef ?yg8 HT ?rg8
       case yg8 =>
        refine Or.inr ⟨by rfl, rfl⟩
       try simp only [Act.put, zA]
       refine qT 9 undef ?yg9 HT ?rg9
       case yg9 =>
        refine Or.inr ⟨by rfl, rfl⟩
       try simp only [Act.put, zA]
       refine qT 10 ?vg10 ?yg10 HT ?rg10
       case yg10 =>
        refine qI fun wS hSw => ?_
        obtain ⟨z0, z1, z2⟩ := plB_cells hSw.1
        have z6 := fun ty => hSw.2.len ty
        go_simp
        try with_reducible rfl
       try simp only [Act.put, zA]
       refine qR 11 fun K hK => ?_
       refine wp_storeS 128 _ _ rfl HR6.out (plC (.map (some pm)) (.pointer (some ⟨rq, 0, none⟩)) DA Dn Dc) rfl Tryz.sizePlan (fun u hu => by simp [plC] at hu; rcases hu with rfl | rfl | rfl <;> rfl) rfl rfl ?_
       intro w7 hcn hcg
       have hk0 : ∀ x, x < w6.heap.size → x ≠ rc → w7.heap[x]? = w6.heap[x]? := fun x hx hn => hcg.block x hx (fun e => hn (by injection e))
       have HB7 := hid (HB6.out.grown hcg HB6.out.size (fun k hk => by injection hk with hk; have := HGE.out; omega))
       have HK7 := hid (HK6.out.keep (hk0 _ HK6.out.lt HCE.out.symm))
       have HM7 := hid (HM6.out.keep (hk0 _ HM6.out.lt (HM6.out.ne HR6.out)))
       have HQ7 := hid (HQ6.out.keep (hk0 _ HQ6.out.blk.lt (Blk.ne HQ6.out.blk HR6.out (by decide))) (hk0 _ HQ6.out.row.lt (Blk.ne HQ6.out.row HR6.out (by decide))))
       have HD7 := hid (own_keep (w' := w7) HD6.out (fun b hb => hk0 b (own_lt HD6.out b hb) (fun e => by
        obtain ⟨_, cap, cur, hv, _, hg, _⟩ := HD6.out.2.resolve_left (fun h => by obtain ⟨h, _⟩ := h; injection h with h; rw [h] at hb; cases hb)
        injection hv with hv
        rw [hv] at hb
        simp at hb
        subst hb
        subst e
        have := HR6.out.symm.trans hg
        injection this with this
        injection this with _ h3 _
        exact absurd h3 (by decide))))
       have HR7 := hid hcn
       clear hk0 hcn hcg
       refine hK.out _ _ ⟨HK7.out, HM7.out⟩ (fun HT => ?_)
       clear hK K
       try simp only [Act.put]
       refine qT 12 ?vg12 ?yg12 HT ?rg12
       case yg12 =>
        refine qI fun wS hSw => ?_
        obtain ⟨z0, z1, z2⟩ := plB_cells hSw.1
        have z6 := fun ty => hSw.2.len ty
        go_simp
        try with_reducible rfl
       try simp only [Act.put, zA]
       refine qD ?_
       clear HT
       go_wp2
       refine bodyPost_ret (res_Pl rfl HR7.out rfl rfl) rfl (.inr ⟨⟨nx, id, fr, dead, ws⟩, pm, rq, kq, s2, DA, Dn, Dc, HPL.out, ?_, HB7.out, HM7.out, HQ7.out, HRM.out, HD7.out, HDN.out.symm, HGE.out.2.2.1, HGE.out.2.2.2.1, HGE.out.2.2.2.2⟩)
       rw [HV2.out]
       rfl
end
theorem ChOn.mono {U U' : Nat → Prop} {w : World} {A : Option Addr} {n : Nat} {l : List Hc} (h : ChOn U w A n l) (hU : ∀ b, U b → b < w.heap.size → U' b) : ChOn U' w A n l :=
 ⟨h.len, fun j hj => by
  obtain ⟨b, off, h1, h2, h3, h4, h5⟩ := h.el j hj
  refine ⟨b, off, h1, hU b h2 h3, h3, h4, ⟨h5.b, fun hn q hq => ?_, h5.k, h5.nm, h5.n⟩⟩
  obtain ⟨b', off', e, _, h7, _⟩ := h5.b.2 hn
  have e2 : b' = q := by rw [e] at hq; simpa using hq
  subst e2
  exact hU _ (h5.u hn _ hq) h7⟩
theorem plan_dead (G : List Ky) (ver : Nat) : ∀ (l : List Ch) (s p : Pl), plan G ver l s = some p → p.dead = (s.dead || l.any fun x => !x.drop && decide (x.k ∈ G))
 | [], s, p, h => by
  injection h with h
  subst h
  simp
 | x :: l, s, p, h => by
  rw [plan] at h
  cases h1 : pl1 G ver s x with
  | none => rw [h1] at h; cases h
  | some s1 =>
   rw [h1] at h
   have h2 := plan_dead G ver l s1 p h
   rw [h2, List.any_cons, ← Bool.or_assoc]
   congr 1
   unfold pl1 at h1
   by_cases hd : x.drop = true
   · rw [if_pos hd] at h1
     injection h1 with h1
     subst h1
     simp [hd]
   · rw [if_neg hd] at h1
     cases hf : s.fr with
     | nil => rw [hf] at h1; cases h1
     | cons f r =>
      rw [hf] at h1
      injection h1 with h1
      subst h1
      have : x.drop = false := by simpa using hd
      simp [this]
theorem ws_is {nx : List Bb} (hr : nx.Pairwise risen) {ws : List (Bb × List UInt8)} {l : List Hc} (hs : ws.map (fun w => (w.1.nm, w.2)) = ((l.map Hc.ch).filter fun x => !x.drop).map fun x => (x.nm, x.body)) (hn : ∀ b t, (b, t) ∈ ws → b ∈ nx) : ws = lyW nx l := by
 have h1 : (ws.map (fun w => (w.1.nm, w.2))).map (fun z => (getB nx z.1, z.2)) = ws := by
  rw [List.map_map]
  have h2 : ∀ w ∈ ws, ((fun z : List UInt8 × List UInt8 => (getB nx z.1, z.2)) ∘ fun w : Bb × List UInt8 => (w.1.nm, w.2)) w = w := by
   rintro ⟨b, t⟩ hb
   have hf := fnd_mem hr (hn b t hb)
   show (getB nx b.nm, t) = (b, t)
   unfold getB
   rw [hf]
   rfl
  rw [List.map_congr_left h2, List.map_id']
 rw [← h1, hs]
 unfold lyW
 rw [List.filter_map, List.map_map, List.map_map]
 rfl
theorem cm_lay {s : Sr} {l : List Ch} {p : Pl} (h1 : s.dn = false) (h2 : ckE s.L l = 0) (h3 : planS s l = some p) (h4 : p.nx.length ≤ 1000 ∧ (dirB p.nx).length ≤ 65536) (h5 : p.dead = false) :
 cmS s l = ((lyR s.d s.v s.c p.ws (dirB p.nx)).1, ⟨(lyR s.d s.v s.c p.ws (dirB p.nx)).2.1, (lyR s.d s.v s.c p.ws (dirB p.nx)).2.2.1, (lyR s.d s.v s.c p.ws (dirB p.nx)).2.2.2, if (lyR s.d s.v s.c p.ws (dirB p.nx)).1 = 0 then p.nx else s.L, decide ((lyR s.d s.v s.c p.ws (dirB p.nx)).1 ≠ 0)⟩) := by
 unfold cmS
 rw [if_neg (by rw [h1]; simp), if_neg (by rw [h2]; simp), h3]
 dsimp only
 rw [if_neg (by omega), if_neg (by rw [h5]; simp)]
 unfold lyR
 by_cases hw : (wrs p.ws s.d s.v).1 ≠ 0
 · simp only [if_pos hw, if_neg hw]
   rw [decide_eq_true hw]
 · simp only [if_neg hw]
   by_cases hp : ptE (wrs p.ws s.d s.v).2.1 (wrs p.ws s.d s.v).2.2 s.c (dirB p.nx).length ≠ 0
   · simp only [if_pos hp, if_neg hp]
     rw [decide_eq_true hp]
   · simp only [if_neg hp]
     have hp' : ptE (wrs p.ws s.d s.v).2.1 (wrs p.ws s.d s.v).2.2 s.c (dirB p.nx).length = 0 := by omega
     rw [hp']
     simp
theorem ck_ok {L : List Bb} {l : List Hc} (h : ckE L (l.map Hc.ch) = 0) : (∀ x ∈ l, nmOk x.nm ∧ x.k.right ∧ x.body.length ≤ 65536) ∧ ((l.map Hc.ch).map Ch.nm).Nodup := by
 unfold ckE at h
 by_cases h1 : (∃ x ∈ l.map Hc.ch, chBad x) ∨ ¬ ((l.map Hc.ch).map Ch.nm).Nodup
 · rw [if_pos h1] at h; cases h
 · rw [not_or] at h1
   refine ⟨fun x hx => ?_, Classical.not_not.1 h1.2⟩
   have h2 : ¬ chBad x.ch := fun e => h1.1 ⟨x.ch, List.mem_map_of_mem hx, e⟩
   unfold chBad at h2
   simp only [not_or, Classical.not_not] at h2
   exact ⟨h2.1, h2.2.1, by have := h2.2.2; show x.ch.body.length ≤ _; omega⟩
theorem rgt_inj {L : List Bb} (h : Rgt L) : ∀ x ∈ L, ∀ y ∈ L, x.b = y.b → x = y := by
 intro x hx y hy e
 obtain ⟨i, hi, rfl⟩ := List.mem_iff_getElem.1 hx
 obtain ⟨j, hj, rfl⟩ := List.mem_iff_getElem.1 hy
 rcases Nat.lt_trichotomy i j with h1 | h1 | h1
 · exact absurd e (List.pairwise_iff_getElem.1 h.2.1 i j hi hj h1).1
 · subst h1; rfl
 · exact absurd e.symm (List.pairwise_iff_getElem.1 h.2.1 j i hj hi h1).1
theorem ts_left {w w' : World} {F : Nat → Prop} {P : Ob} {wz : World} {X : Nat → Prop} (hs : w.heap.size ≤ w'.heap.size) (hO : On wz P w' X) (hX : ∀ x, x < w.heap.size → ¬ F x → X x) (hB : Below wz.heap.size wz w) (hB' : ∀ x, x < w.heap.size → ¬ F x → w'.heap[x]? = w.heap[x]?) : P.Left w w' F := by
 obtain ⟨F', h1, h2, h3, h4⟩ := hO
 refine ⟨F', h1, ⟨h3.os.trans hB.os.symm, h3.tape.trans hB.tape.symm, h3.output.trans hB.output.symm, hs, fun k hk hF => hB' k hk hF⟩, fun j hj => ?_⟩
 rcases Nat.lt_or_ge j w.heap.size with e | e
 · by_cases hF : F j
   · exact .inl hF
   · exact absurd hj (h4 j (hX j e hF)).1
 · exact .inr e
theorem so_turn {wz w w' : World} {gd gv gc gs m mb rb k : Nat} {d : St} {v : Va} {c : Ce} {L L' : List Bb} {dn dn' : Bool} {s : Sp} {X Y : Nat → Prop} (hO : On wz (TS gd d gv v gc c gs m L dn) w X) (hg : w.grownBy w' (some gs))
 (hb : Blk w' gs 124 (soCells gd gv gc mb rb dn')) (hm : BMp w' mb L') (hr : Mp w' rb k s) (hq : Rm s m L') (hY : ∀ x, Y x → X x) (hu : ((X mb ∧ X rb ∧ X k) ∧ ∀ x, Y x → x ≠ mb ∧ x ≠ rb ∧ x ≠ k) ∨ ∀ mb' rb' k' s', SoB w gs gd gv gc m L dn mb' rb' k' s' → (mb' = mb ∧ rb' = rb ∧ k' = k)) : On wz (TS gd d gv v gc c gs m L' dn') w' Y := by
 obtain ⟨F, ⟨A, B, h1, h2, h3, h4⟩, h5, h6, h7⟩ := hO
 obtain ⟨mb', rb', k', s', hs, hB⟩ := h2
 have hgs : B gs := (hB gs).2 (.inl rfl)
 have hAg : ∀ j, A j → j ≠ gs := fun j hj e => h3 j hj (e ▸ hgs)
 have hBn : ∀ j, (j = gs ∨ j = mb ∨ j = rb ∨ j = k) → B j ∨ X j := by
  intro j hj
  rcases hu with ⟨⟨a1, a2, a3⟩, _⟩ | hu
  · rcases hj with rfl | rfl | rfl | rfl
    · exact .inl hgs
    · exact .inr a1
    · exact .inr a2
    · exact .inr a3
  · obtain ⟨a1, a2, a3⟩ := hu mb' rb' k' s' hs
    subst a1 a2 a3
    exact .inl ((hB j).2 hj)
 refine ⟨fun j => A j ∨ (j = gs ∨ j = mb ∨ j = rb ∨ j = k), ⟨A, fun j => j = gs ∨ j = mb ∨ j = rb ∨ j = k, (TC.ok gd d gv v gc c).keep w w' A h1 hg.size (fun j hj => hg.block j ((TC.ok gd d gv v gc c).lt w A h1 j hj) (fun e => hAg j hj (by injection e))), ⟨mb, rb, k, s, ⟨hb, hm, hr, hq⟩, fun _ => Iff.rfl⟩, fun j hj hj2 => ?_, fun _ => Iff.rfl⟩, fun j hj => ?_, h6.grown hg h6.size (fun x hx => by injection hx with hx; subst hx; exact h5 _ ((h4 _).2 (.inr hgs))), fun x hx => ?_⟩
 · rcases hBn j hj2 with e | e
   · exact h3 j hj e
   · exact (h7 j e).1 ((h4 j).2 (.inl hj))
 · rcases hj with hj | hj
   · exact h5 j ((h4 j).2 (.inl hj))
   · rcases hBn j hj with e | e
     · exact h5 j ((h4 j).2 (.inr e))
     · exact (h7 j e).2.2
 · obtain ⟨b1, b2, b3⟩ := h7 x (hY x hx)
   refine ⟨?_, Nat.lt_of_lt_of_le b2 hg.size, b3⟩
   rintro (e | e)
   · exact b1 ((h4 x).2 (.inl e))
   · rcases hu with ⟨_, q⟩ | hu
     · obtain ⟨c1, c2, c3⟩ := q x hx
       rcases e with e | e | e | e
       · exact b1 ((h4 x).2 (.inr (e ▸ hgs)))
       · exact c1 e
       · exact c2 e
       · exact c3 e
     · obtain ⟨q1, q2, q3⟩ := hu mb' rb' k' s' hs
       subst q1 q2 q3
       exact b1 ((h4 x).2 (.inr ((hB x).2 e)))
theorem so_same {w : World} {gs gd gv gc m mb rb k mb' rb' k' : Nat} {L : List Bb} {dn : Bool} {s s' : Sp} (h : SoB w gs gd gv gc m L dn mb rb k s) (h' : SoB w gs gd gv gc m L dn mb' rb' k' s') : mb' = mb ∧ rb' = rb ∧ k' = k := by
 have e := h.blk.symm.trans h'.blk
 simp [soCells] at e
 obtain ⟨e1, e2⟩ := e
 subst e1 e2
 have e2 := h.room.blk.symm.trans h'.room.blk
 simp at e2
 exact ⟨rfl, rfl, e2.1.1.symm⟩
theorem commit_c {w : World} {F : Nat → Prop} {gd gv gc gs n m q : Nat} {d : St} {v : Va} {c : Ce} {L : List Bb} {dn : Bool} {A : Option Addr} {l : List Hc} (h0 : TS gd d gv v gc c gs m L dn w F) (h : ChOn (fun b => ¬ F b) w A n l) (hn : n ≤ 10000)
 (hR : Rgt L) (hwf : ∀ x ∈ L, x.wf) (hlt : ∀ x ∈ L, x.b < (m : Int)) (hm : d.n = m) (hW : d.W.length ≤ 30000) (hvl : v.L.length ≤ 300000) (hv : c.ver ≤ 500000) :
 Calls Tryz.prog 18 #[.pointer (some ⟨gs, 0, none⟩), .slice A n q] w fun e w' => e = .returned (.int .i64 (cmS ⟨d, v, c, L, dn⟩ (l.map Hc.ch)).1) ∧
  (TS gd (cmS ⟨d, v, c, L, dn⟩ (l.map Hc.ch)).2.d gv (cmS ⟨d, v, c, L, dn⟩ (l.map Hc.ch)).2.v gc (cmS ⟨d, v, c, L, dn⟩ (l.map Hc.ch)).2.c gs m (cmS ⟨d, v, c, L, dn⟩ (l.map Hc.ch)).2.L (cmS ⟨d, v, c, L, dn⟩ (l.map Hc.ch)).2.dn).Left w w' F := by
 have HZ : Hid (Below ({ w with heap := #[] } : World).heap.size { w with heap := #[] } w) := hid ⟨rfl, rfl, rfl, Nat.zero_le _, fun k hk => absurd hk (Nat.not_lt_zero k)⟩
 have HGF : Hid (F gs) := hid (by
  obtain ⟨_, B', _, ⟨_, _, _, _, _, hB⟩, _, h4⟩ := h0
  exact (h4 gs).2 (.inr ((hB gs).2 (.inl rfl))))
 have hO0 : On { w with heap := #[] } (TS gd d gv v gc c gs m L dn) w (fun x => x < w.heap.size ∧ ¬ F x) := ⟨F, h0, fun _ _ => Nat.zero_le _, HZ.out, fun x hx => ⟨hx.2, hx.1, Nat.zero_le _⟩⟩
 have HH := hid h0
 have HCH : Hid (ChOn (fun x => x < w.heap.size ∧ ¬ F x) w A n l) := hid (h.mono fun b hb hs => ⟨hs, hb⟩)
 have HN := hid hn
 have HLN : Hid (l.length = n) := hid h.len
 have HR := hid hR
 have HWF := hid hwf
 have HLT := hid hlt
 have HDM := hid hm
 have HW := hid hW
 have HVL := hid hvl
 have HV := hid hv
 have HO := hid hO0
 have HS : Hid (∃ S, S = cmS ⟨d, v, c, L, dn⟩ (l.map Hc.ch)) := hid ⟨_, rfl⟩
 obtain ⟨S, hS⟩ := HS.out
 rw [← hS]
 have HSE := hid hS
 obtain ⟨mb, rb, k, s, hs⟩ := so_at (ts_s gd d gv v gc c) hO0
 have HSO := hid hs
 obtain ⟨y0, y1, y2, y3, y4, y5⟩ := hs.cells
 generalize hwz : ({ w with heap := #[] } : World) = wz at *
 clear hwz h0 h hn hR hwf hlt hm hW hvl hv hO0 HS hS hs
 go_enter Tryz.func18, Tryz.ntmps18
 cases hdn : dn with
 | true =>
  subst hdn
  have HE : Hid (S = (40, ⟨d, v, c, L, true⟩)) := hid (HSE.out.trans (if_pos rfl))
  go_wp2
  go_ret
  rw [HE.out]
  exact ⟨rfl, .same HH.out⟩
 | false =>
 subst hdn
 go_wp2_with fail
 refine (wrong_c HSO.out HCH.out (by have := HN.out; omega)).mono ?_
 rintro e w1 ⟨rfl, hb1⟩
 have HB1 := hid hb1
 clear hb1 y0 y1 y2 y3 y4 y5
 by_cases hE : ckE L (l.map Hc.ch) = 0
 case neg =>
  have HE : Hid (S = (ckE L (l.map Hc.ch), ⟨d, v, c, L, false⟩)) := hid (by
   rw [HSE.out]
   unfold cmS
   rw [if_neg (by simp), if_pos hE])
  have z1 : (ckE L (l.map Hc.ch) == 0) = false := beq_eq_false_iff_ne.2 hE
  have z2 : decide (ckE L (l.map Hc.ch) = 0) = false := decide_eq_false hE
  have z3 : (ckE L (l.map Hc.ch) != 0) = true := by rw [bne, z1]; rfl
  clear hE
  generalize ckE L (l.map Hc.ch) = E at *
  go_wp2
  go_ret
  rw [HE.out]
  exact ⟨rfl, .bel (TS.ok _ _ _ _ _ _ _ _ _ _) HH.out HB1.out⟩
 case pos =>
 rw [hE]
 have HE0 := hid hE
 have HOK := hid (ck_ok hE)
 clear hE
 have HO1 := hid (HO.out.go (TS.ok _ _ _ _ _ _ _ _ _ _) HB1.out)
 have HC1 := hid (HCH.out.bel HB1.out)
 have HXN : Hid (∀ x ∈ l, x.nm.length ≤ 40 ∧ x.n ≤ 65536) := hid (fun x hx => by
  obtain ⟨j, hj, rfl⟩ := List.mem_iff_getElem.1 hx
  obtain ⟨_, _, _, _, _, _, hc⟩ := HCH.out.el j hj
  have h1 : l[j].body.length = l[j].n := hc.b.1
  obtain ⟨a1, _, a3⟩ := HOK.out.1 _ hx
  exact ⟨a1.2, by omega⟩)
 go_wp2_with fail
 refine (plan_c Foc.self (fun _ h => h) HO1.out HC1.out HN.out (rise_of HR.out) (rgt_inj HR.out) (fun x hx => ⟨(HR.out.1 x hx).2.2.2.2.2.2.2.1, HLT.out x hx⟩) (fun x hx => ⟨HWF.out x hx, (HR.out.1 x hx).1.2⟩) HR.out.2.2 HXN.out HOK.out.2 (by have := HVL.out; omega) HV.out).mono ?_
 rintro e w2 (⟨hp, rfl, hb2⟩ | ⟨p, pm, rq, kq, sq, DA, Dn, Dc, hp, rfl, hb2, hpm, hrm, hrm2, hda, hdn, hg1, hg2, hg3⟩)
 · have HE : Hid (S = (60, ⟨d, v, c, L, false⟩)) := hid (by
    rw [HSE.out]
    unfold cmS
    have e : planS ⟨d, v, c, L, false⟩ (l.map Hc.ch) = none := by
     unfold planS
     rw [HDM.out]
     exact hp
    rw [if_neg (by simp), if_neg (fun z => z HE0.out), e])
   have HB2 := hid ((HB1.out.trans (hb2.mono HB1.out.size)).alloc (by have := HB1.out.size; have := hb2.size; omega) (.cells #[.map none, .pointer none, .slice none 0 0] 128))
   clear hp hb2
   go_wp2
   go_ret
   rw [HE.out]
   exact ⟨rfl, .bel (TS.ok _ _ _ _ _ _ _ _ _ _) HH.out HB2.out⟩
 have HB2 := hid (HB1.out.trans (hb2.mono HB1.out.size))
 have HPE : Hid (planS ⟨d, v, c, L, false⟩ (l.map Hc.ch) = some p) := hid (by
  unfold planS
  rw [HDM.out]
  exact hp)
 have HP := hid hp
 have HB3 := hid (HB2.out.alloc HB2.out.size (.cells #[.map (some pm), .pointer (some ⟨rq, 0, none⟩), .slice DA Dn Dc] 128))
 have hb3 : Below w2.heap.size w2 (w2.alloc (.cells #[.map (some pm), .pointer (some ⟨rq, 0, none⟩), .slice DA Dn Dc] 128)) := (Below.refl _ _).alloc (nl _) _
 by_cases hbig : p.nx.length ≤ 1000 ∧ (dirB p.nx).length ≤ 65536
 case neg =>
  have HE : Hid (S = (60, ⟨d, v, c, L, false⟩)) := hid (by
   rw [HSE.out]
   unfold cmS
   rw [if_neg (by simp), if_neg (fun z => z HE0.out), HPE.out]
   dsimp only
   rw [if_pos (by omega)])
  rw [decide_eq_false hbig]
  clear hp hb2 hb3 hpm hrm hrm2 hda hdn hg1 hg2 hg3 hbig
  go_wp2
  go_ret
  rw [HE.out]
  exact ⟨rfl, .bel (TS.ok _ _ _ _ _ _ _ _ _ _) HH.out HB3.out⟩
 case pos =>
 rw [decide_eq_true hbig]
 have HBIG := hid hbig
 have HPM := hid (hpm.bel hb3)
 have HRM := hid (hrm.keep (hb3.block _ hrm.blk.lt) (hb3.block _ hrm.row.lt))
 have HRQ := hid hrm2
 have HDA := hid (World.ownsRow.below hda hb3)
 have HDN := hid hdn
 have HG := hid (And.intro hg1 (And.intro hg2 hg3))
 have HK3 := hid (Blk.new w2 128 #[.map (some pm), .pointer (some ⟨rq, 0, none⟩), .slice DA Dn Dc])
 clear hp hb2 hb3 hpm hrm hrm2 hda hdn hg1 hg2 hg3 hbig
 have HBX := hid HB2.out.size
 go_wp2_with fail
 generalize w2.alloc (.cells #[.map (some pm), .pointer (some ⟨rq, 0, none⟩), .slice DA Dn Dc] 128) = w3 at *
 generalize w2.heap.size = bx at *
 have HO3 := hid (HO.out.go (TS.ok _ _ _ _ _ _ _ _ _ _) HB3.out)
 have HC3 := hid (HCH.out.bel HB3.out)
 refine (keyGone_on Foc.self (fun _ h => h) HO3.out HC3.out (by have := HN.out; omega)).mono ?_
 rintro e w4 ⟨rfl, hb4⟩
 have HDEAD : Hid (p.dead = decide (kgB v l)) := hid (by
  rw [plan_dead _ _ _ _ _ HP.out]
  rw [Bool.eq_iff_iff]
  simp only [Bool.false_or, List.any_eq_true, decide_eq_true_eq]
  constructor
  · rintro ⟨x, hx, h2⟩
    obtain ⟨y, hy, rfl⟩ := List.mem_map.1 hx
    rw [Bool.and_eq_true] at h2
    exact ⟨y, hy, (show y.ch.drop = false by simpa using h2.1), (show y.ch.k ∈ v.G by simpa using h2.2)⟩
  · rintro ⟨y, hy, h2, h3⟩
    refine ⟨y.ch, List.mem_map_of_mem hy, ?_⟩
    rw [Bool.and_eq_true]
    exact ⟨by rw [show y.ch.drop = false from h2]; rfl, decide_eq_true (show y.ch.k ∈ v.G from h3)⟩)
 have HB4 := hid (HB3.out.trans (hb4.mono HB3.out.size))
 by_cases hkg : kgB v l
 · have HE : Hid (S = (50, ⟨d, v, c, L, false⟩)) := hid (by
    rw [HSE.out]
    unfold cmS
    rw [if_neg (by simp), if_neg (fun z => z HE0.out), HPE.out]
    dsimp only
    rw [if_neg (by have := HBIG.out; omega), if_pos (by rw [HDEAD.out]; exact decide_eq_true hkg)])
   rw [decide_eq_true hkg]
   clear hb4 hkg
   go_wp2
   go_ret
   rw [HE.out]
   exact ⟨rfl, .bel (TS.ok _ _ _ _ _ _ _ _ _ _) HH.out HB4.out⟩
 rw [decide_eq_false hkg]
 have HDF : Hid (p.dead = false) := hid (HDEAD.out.trans (decide_eq_false hkg))
 have HK4 := hid (HK3.out.keep (hb4.block _ HK3.out.lt))
 have HPM4 := hid (HPM.out.bel hb4)
 have HRM4 := hid (HRM.out.keep (hb4.block _ HRM.out.blk.lt) (hb4.block _ HRM.out.row.lt))
 have HDA4 := hid (World.ownsRow.below HDA.out hb4)
 clear hb4 hkg HDEAD HK3 HPM HRM HDA HO3 HC3
 have HO4 := hid (HO.out.add (TS.ok _ _ _ _ _ _ _ _ _ _) HB4.out (Y := fun x => w.heap.size ≤ x ∧ x < w4.heap.size) (fun x hx => hx))
 have HC4 : Hid (ChOn (fun b => ((b < w.heap.size ∧ ¬ F b) ∨ (w.heap.size ≤ b ∧ b < w4.heap.size)) ∨ b < wz.heap.size) w4 A n l) := hid ((HCH.out.bel HB4.out).mono fun b hb _ => .inl (.inl hb))
 have HPI := hid (PI.plan (frs_nodup m L) (fun f hf b hb => (frs_mem.1 hf).2 b hb) (l.map Hc.ch) [] ⟨L, v.L.length, frs m L, false, []⟩ _ (PI.init_ (rise_of HR.out) (rgt_inj HR.out)) (by simpa using HOK.out.2) HP.out)
 have HWS : Hid (p.ws = lyW p.nx l) := hid (ws_is HPI.out.rise HPI.out.seq HPI.out.new)
 have HIN : Hid (∀ x ∈ l, x.dr = false → isB p.nx x.nm = true) := hid (fun x hx hd => by
  have h1 : (x.nm, x.body) ∈ p.ws.map (fun w => (w.1.nm, w.2)) := by
   rw [HPI.out.seq]
   exact List.mem_map.2 ⟨x.ch, List.mem_filter.2 ⟨List.mem_map_of_mem hx, by show (!x.dr) = true; rw [hd]; rfl⟩, rfl⟩
  obtain ⟨⟨b, t⟩, h2, h3⟩ := List.mem_map.1 h1
  have h4 := HPI.out.new b t h2
  have h5 : b.nm = x.nm := congrArg Prod.fst h3
  rw [← isB_dec, ← h5]
  exact decide_eq_true (List.mem_map_of_mem h4))
 have HMM : Hid (m ≤ 4096) := hid (by have := HSO.out.room.ok.n2; rw [HSO.out.rm.len] at this; exact this)
 have HNX : Hid (∀ y ∈ p.nx, y.wf ∧ y.p.k = y.k) := hid (fun y hy => ⟨(HPI.out.wf_ (q := 40) (fun x hx => ⟨HWF.out x hx, (HR.out.1 x hx).1.2⟩) (fun x hx => by
  obtain ⟨z, hz, rfl⟩ := List.mem_map.1 hx
  obtain ⟨j, hj, rfl⟩ := List.mem_iff_getElem.1 hz
  obtain ⟨_, _, _, _, _, _, hc⟩ := HCH.out.el j hj
  obtain ⟨a1, _, a3⟩ := HOK.out.1 _ hz
  exact ⟨hc.k, a1.2, by show l[j].body.length ≤ _; omega⟩) (by omega) (fun f hf => by have := (frs_mem.1 hf).1; have := HMM.out; omega) (by rw [List.nil_append, List.length_map, HLN.out]; have := HVL.out; have := HN.out; omega) (by have := HV.out; omega) y hy).1, by
  rcases HPI.out.mem y hy with ⟨h1, _⟩ | ⟨t, h1⟩
  · exact (HR.out.1 y h1).2.2.1
  · obtain ⟨j, hj⟩ := List.mem_iff_getElem?.1 h1
    obtain ⟨z, f, _, _, rfl, _⟩ := HPI.out.ws j y t hj
    rfl⟩)
 obtain ⟨x0, x1, x2⟩ := plB_cells HK4.out
 have hlay := lay_on Foc.self (fun _ h => h) HO4.out HC4.out HN.out pm rq DA Dn Dc (dirB p.nx) (q := q) HPM4.out (.inr ⟨Nat.le_trans HB1.out.size HG.out.1, HPM4.out.lt⟩) ((Bts.own HDA4.out).wide (Nat.zero_le _) (nl _)) (fun b hb => .inr ⟨by
  have h2 : (Value.slice DA Dn Dc).ownBlock = DA.map (·.block) := by cases DA <;> rfl
  have := (HDA4.out.lt b (by rw [h2]; exact hb)).1
  have := HB1.out.size
  omega, own_lt HDA4.out b hb⟩) HNX.out HIN.out HW.out HVL.out HV.out
 have HCM := hid (cm_lay (s := ⟨d, v, c, L, false⟩) (l := l.map Hc.ch) rfl HE0.out HPE.out HBIG.out HDF.out)
 rw [HWS.out] at HCM
 have HSE2 := hid (HSE.out.trans HCM.out)
 clear HSE HCM
 go_wp2_with fail
 refine hlay.mono ?_
 rintro e w5 ⟨rfl, hO5, hst5⟩
 have HO5 := hid hO5
 have HST5 := hid hst5
 clear hlay hO5 hst5 x0 x1 x2
 generalize lyR d v c (lyW p.nx l) (dirB p.nx) = R at *
 obtain ⟨R1, R2, R3, R4⟩ := R
 dsimp only at HSE2 HO5 ⊢
 have HK5 := hid (HK4.out.keep (HST5.out.2 bx (.inr ⟨HBX.out, HK4.out.lt⟩)))
 have HPM5 := hid (HPM4.out.keep (HST5.out.2 pm (.inr ⟨Nat.le_trans HB1.out.size HG.out.1, HPM4.out.lt⟩)))
 have HRM5 := hid (HRM4.out.keep (HST5.out.2 rq (.inr ⟨Nat.le_trans HB1.out.size HG.out.2.1, HRM4.out.blk.lt⟩)) (HST5.out.2 kq (.inr ⟨Nat.le_trans HB1.out.size HG.out.2.2, HRM4.out.row.lt⟩)))
 have HKP : Hid (∀ x, x < w.heap.size → ¬ F x → w5.heap[x]? = w.heap[x]?) := hid (fun x hx hF => (HST5.out.2 x (.inl ⟨hx, hF⟩)).trans (HB4.out.block x hx))
 have HSZ : Hid (w.heap.size ≤ w5.heap.size) := hid (Nat.le_trans HB4.out.size HST5.out.1)
 have HX5 : Hid (((w.heap.size ≤ pm ∧ pm < w4.heap.size) ∧ (w.heap.size ≤ rq ∧ rq < w4.heap.size)) ∧ (w.heap.size ≤ kq ∧ kq < w4.heap.size)) := hid ⟨⟨⟨Nat.le_trans HB1.out.size HG.out.1, HPM4.out.lt⟩, Nat.le_trans HB1.out.size HG.out.2.1, HRM4.out.blk.lt⟩, Nat.le_trans HB1.out.size HG.out.2.2, HRM4.out.row.lt⟩
 clear HST5 HK4 HPM4 HRM4 HDA4 HO4 HC4
 by_cases hR1 : R1 = 0
 case neg =>
  have HE : Hid (S = (R1, ⟨R2, R3, R4, L, true⟩)) := hid (by rw [HSE2.out, if_neg hR1, decide_eq_true hR1])
  have z1 : (R1 == 0) = false := beq_eq_false_iff_ne.2 hR1
  have z2 : decide (R1 = 0) = false := decide_eq_false hR1
  have z3 : (R1 != 0) = true := by rw [bne, z1]; rfl
  obtain ⟨mb5, rb5, k5, s5, hs5⟩ := so_at (ts_s gd R2 gv R3 gc R4) HO5.out
  have HS5 := hid hs5
  obtain ⟨y0, y1, y2, y3, y4, y5⟩ := hs5.cells
  have hfz : w5.frozen? ⟨gs, 5, none⟩ = false := hs5.blk.frozen 5
  clear hR1 hs5 HSE2 HK5 HPM5 HRM5
  go_wp2
  go_ret
  rw [HE.out]
  have hg := grown_setCell w5 gs 5 (.bool true)
  have hk0 : ∀ x, x < w5.heap.size → x ≠ gs → (w5.setCell ⟨gs, 5, none⟩ (.bool true)).heap[x]? = w5.heap[x]? := fun x hx hn => hg.block x hx (fun e => hn (by injection e))
  exact ⟨rfl, ts_left (Nat.le_trans HSZ.out hg.size) (so_turn (Y := fun x => x < w.heap.size ∧ ¬ F x) HO5.out hg (HS5.out.blk.store 5 (.bool true)) (HS5.out.map.keep (hk0 _ HS5.out.lt.2.1 HS5.out.ne.1)) (HS5.out.room.keep (hk0 _ HS5.out.lt.2.2.1 HS5.out.ne.2.1) (hk0 _ HS5.out.lt.2.2.2 HS5.out.ne.2.2.1)) HS5.out.rm (fun x hx => .inl hx) (.inr fun _ _ _ _ h' => so_same HS5.out h')) (fun x a b => ⟨a, b⟩) HZ.out (fun x hx hF => (hk0 x (Nat.lt_of_lt_of_le hx HSZ.out) (fun e => hF (e ▸ HGF.out))).trans (HKP.out x hx hF))⟩
 case pos =>
 subst hR1
 have HE : Hid (S = (0, ⟨R2, R3, R4, p.nx, false⟩)) := hid (by rw [HSE2.out, if_pos rfl]; rfl)
 clear HSE2
 go_wp2_with fail
 have HO6 := hid (HO5.out.go (TS.ok _ _ _ _ _ _ _ _ _ _) (wr' := w5.drew) ((Below.refl _ _).drew))
 have HK6 : Hid (Blk w5.drew bx 128 #[.map (some pm), .pointer (some ⟨rq, 0, none⟩), .slice DA Dn Dc]) := hid HK5.out
 have HPM6 : Hid (BMp w5.drew pm p.nx) := hid (HPM5.out.keep rfl)
 have HRM6 : Hid (Mp w5.drew rq kq sq) := hid (HRM5.out.keep rfl rfl)
 have HKP6 : Hid (∀ x, x < w.heap.size → ¬ F x → w5.drew.heap[x]? = w.heap[x]?) := hid HKP.out
 have HSZ6 : Hid (w.heap.size ≤ w5.drew.heap.size) := hid HSZ.out
 obtain ⟨mb5, rb5, k5, s5, hs5⟩ := so_at (ts_s gd R2 gv R3 gc R4) HO6.out
 have HS6 := hid hs5
 clear hs5 HO5 HK5 HPM5 HRM5 HKP HSZ
 refine wp_region_held_drew (S := fun wx => Blk wx bx 128 #[.map (some pm), .pointer (some ⟨rq, 0, none⟩), .slice DA Dn Dc]) (by kernel_rfl) HK6.out (fun HT => ?_)
 generalize w5.drew = w6 at *
 refine qT 0 ?va0 ?ya0 HT ?ra0
 case ya0 =>
  refine qI fun wS hSw => ?_
  obtain ⟨z0, z1, z2⟩ := plB_cells hSw
  go_simp
  try with_reducible rfl
 try simp only [Act.put, zA]
 refine qT 1 ?va1 ?ya1 HT ?ra1
 case ya1 =>
  refine qI fun wS hSw => ?_
  obtain ⟨z0, z1, z2⟩ := plB_cells hSw
  go_simp
  try with_reducible rfl
 try simp only [Act.put, zA]
 refine qT 2 ?va2 ?ya2 HT ?ra2
 case ya2 =>
  refine qI fun wS hSw => ?_
  obtain ⟨z0, z1, z2⟩ := plB_cells hSw
  go_simp
  try with_reducible rfl
 try simp only [Act.put, zA]
 refine qT 3 ?va3 ?ya3 HT ?ra3
 case ya3 =>
  refine qI fun wS hSw => ?_
  obtain ⟨z0, z1, z2⟩ := plB_cells hSw
  go_simp
  try with_reducible rfl
 try simp only [Act.put, zA]
 refine qT 4 ?va4 ?ya4 HT ?ra4
 case ya4 =>
  refine qI fun wS hSw => ?_
  obtain ⟨z0, z1, z2⟩ := plB_cells hSw
  go_simp
  try with_reducible rfl
 try simp only [Act.put, zA]
 refine qT 5 ?va5 ?ya5 HT ?ra5
 case ya5 =>
  refine qI fun wS hSw => ?_
  obtain ⟨z0, z1, z2⟩ := plB_cells hSw
  go_simp
  try with_reducible rfl
 try simp only [Act.put, zA]
 refine qT 6 ?va6 ?ya6 HT ?ra6
 case ya6 =>
  refine qI fun wS hSw => ?_
  obtain ⟨z0, z1, z2⟩ := plB_cells hSw
  go_simp
  try with_reducible rfl
 try simp only [Act.put, zA]
 refine qT 7 ?va7 ?ya7 HT ?ra7
 case ya7 =>
  refine qI fun wS hSw => ?_
  obtain ⟨z0, z1, z2⟩ := plB_cells hSw
  go_simp
  try with_reducible rfl
 try simp only [Act.put, zA]
 obtain ⟨y0, y1, y2, y3, y4, y5⟩ := HS6.out.cells
 have hfz : w6.frozen? ⟨gs, 3, none⟩ = false := HS6.out.blk.frozen 3
 have HNG : Hid (bx ≠ gs) := hid (Blk.ne HK6.out HS6.out.blk (by decide))
 refine qR 8 fun K hK => ?_
 go_simp
 refine hK.out _ _ (HK6.out.keep ((grown_setCell w6 gs 3 (.map (some pm))).block _ HK6.out.lt (fun e => HNG.out (by injection e)))) (fun HT => ?_)
 clear hK K
 try simp only [Act.put]
 refine qT 9 ?va9 ?ya9 HT ?ra9
 case ya9 =>
  refine qI fun wS hSw => ?_
  obtain ⟨z0, z1, z2⟩ := plB_cells hSw
  go_simp
  try with_reducible rfl
 try simp only [Act.put, zA]
 refine qT 10 ?va10 ?ya10 HT ?ra10
 case ya10 =>
  refine qI fun wS hSw => ?_
  obtain ⟨z0, z1, z2⟩ := plB_cells hSw
  go_simp
  try with_reducible rfl
 try simp only [Act.put, zA]
 have hb7 := HS6.out.blk.store 3 (.map (some pm))
 have u4 : (w6.setCell ⟨gs, 3, none⟩ (.map (some pm))).cell? ⟨gs, 4, none⟩ = some (.pointer (some ⟨rb5, 0, none⟩)) := (hb7.cell 4).trans rfl
 have hfy : (w6.setCell ⟨gs, 3, none⟩ (.map (some pm))).frozen? ⟨gs, 4, none⟩ = false := hb7.frozen 4
 clear hb7
 refine qR 11 fun K hK => ?_
 go_simp
 refine hK.out _ _ (Blk.keep HT ((grown_setCell _ gs 4 (.pointer (some ⟨rq, 0, none⟩))).block _ (Blk.lt HT) (fun e => HNG.out (by injection e)))) (fun HT2 => ?_)
 clear hK K
 try simp only [Act.put]
 refine qD ?_
 clear HT HT2 y0 y1 y2 y3 y4 y5 hfz u4 hfy
 have hg : w6.grownBy ((w6.setCell ⟨gs, 3, none⟩ (.map (some pm))).setCell ⟨gs, 4, none⟩ (.pointer (some ⟨rq, 0, none⟩))) (some gs) := (grown_setCell w6 gs 3 (.map (some pm))).trans (grown_setCell _ gs 4 (.pointer (some ⟨rq, 0, none⟩)))
 have HG7 := hid hg
 clear hg
 go_wp2
 go_ret
 rw [HE.out]
 have hk0 : ∀ x, x < w6.heap.size → x ≠ gs → ((w6.setCell ⟨gs, 3, none⟩ (.map (some pm))).setCell ⟨gs, 4, none⟩ (.pointer (some ⟨rq, 0, none⟩))).heap[x]? = w6.heap[x]? := fun x hx hn => HG7.out.block x hx (fun e => hn (by injection e))
 have hgs : gs < w.heap.size := (TS.ok _ _ _ _ _ _ _ _ _ _).lt w F HH.out gs HGF.out
 exact ⟨rfl, ts_left (Nat.le_trans HSZ6.out HG7.out.size) (so_turn (Y := fun x => x < w.heap.size ∧ ¬ F x) HO6.out HG7.out ((HS6.out.blk.store 3 (.map (some pm))).store 4 (.pointer (some ⟨rq, 0, none⟩))) (HPM6.out.keep (hk0 _ HPM6.out.lt (by have := HX5.out; omega))) (HRM6.out.keep (hk0 _ HRM6.out.blk.lt (by have := HX5.out; omega)) (hk0 _ HRM6.out.row.lt (by have := HX5.out; omega))) HRQ.out (fun x hx => .inl hx) (.inl ⟨⟨.inr HX5.out.1.1, .inr HX5.out.1.2, .inr HX5.out.2⟩, fun x hx => by have := HX5.out; have := hx.1; omega⟩)) (fun x a b => ⟨a, b⟩) HZ.out (fun x hx hF => (hk0 x (Nat.lt_of_lt_of_le hx HSZ6.out) (fun e => hF (e ▸ HGF.out))).trans (HKP6.out x hx hF))⟩
theorem commit_on {C : Ob → Ob} {w wr : World} {X : Nat → Prop} {gd gv gc gs n m q : Nat} {d : St} {v : Va} {c : Ce} {L : List Bb} {dn : Bool} {A : Option Addr} {l : List Hc} (hC : Foc C) (hO : On w (C (TS gd d gv v gc c gs m L dn)) wr X) (h : ChOn (fun b => X b ∨ b < w.heap.size) wr A n l) (hn : n ≤ 10000)
 (hR : Rgt L) (hwf : ∀ x ∈ L, x.wf) (hlt : ∀ x ∈ L, x.b < (m : Int)) (hm : d.n = m) (hW : d.W.length ≤ 30000) (hvl : v.L.length ≤ 300000) (hv : c.ver ≤ 500000) :
 Calls Tryz.prog 18 #[.pointer (some ⟨gs, 0, none⟩), .slice A n q] wr fun e w' => e = .returned (.int .i64 (cmS ⟨d, v, c, L, dn⟩ (l.map Hc.ch)).1) ∧
  On w (C (TS gd (cmS ⟨d, v, c, L, dn⟩ (l.map Hc.ch)).2.d gv (cmS ⟨d, v, c, L, dn⟩ (l.map Hc.ch)).2.v gc (cmS ⟨d, v, c, L, dn⟩ (l.map Hc.ch)).2.c gs m (cmS ⟨d, v, c, L, dn⟩ (l.map Hc.ch)).2.L (cmS ⟨d, v, c, L, dn⟩ (l.map Hc.ch)).2.dn)) w' X ∧ Stay X wr w' := by
 obtain ⟨F, h1, hge, hx, hf⟩ := hO.at_ hC
 refine (commit_c h1 (h.mono fun b hb _ => hb.elim (hx b) fun hlt e => by have := hge b e; omega) hn hR hwf hlt hm hW hvl hv).mono ?_
 rintro e w' ⟨rfl, hl⟩
 obtain ⟨k1, k2, k3⟩ := hf w' _ hl
 exact ⟨rfl, k1, k2, k3⟩
end Go.Proofs.YtolaojkcofbkhaaGreat
