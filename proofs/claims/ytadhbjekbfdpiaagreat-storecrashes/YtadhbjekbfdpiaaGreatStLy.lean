/- What store.keyGone and store.lay return and leave. Nothing is assumed. -/
import Derived.Test.YtadhbjekbfdpiaaGreatStCg
namespace Go.Proofs.YtadhbjekbfdpiaaGreat
open Go.RowKit

theorem opE_nil (v : Va) (k : Ky) : (opE v k [] 0 = 50 ↔ k ∈ v.G) := by
  unfold opE
  by_cases h : k ∈ v.G
  · rw [if_pos h]; exact ⟨fun _ => h, fun _ => rfl⟩
  · rw [if_neg h]
    constructor
    · intro e; split at e <;> omega
    · exact fun e => absurd e h
theorem exec_loadK {w : World} {b : Nat} {t : TypeId} {op : Oper} {a : Act} {y : Hc} (x : Operand) (ho : op.op = .load 54 x) (hx : a.eval x = .pointer (some ⟨b, 1, none⟩)) (h : Blk w b t #[.string (str (y).nm), .int .i64 (y).k.t, .int .i64 (y).k.c, .int .i64 (y).k.e, .slice (y).A (y).n (y).c, .bool (y).dr]) : (execOp a.eval op).run Tryz.prog w = .ok (.value (.agg #[.int .i64 (y.k).t, .int .i64 (y.k).c, .int .i64 (y.k).e])) w :=
  exec_load_mid 54 x ho b 1 hx [.int .i64 y.k.t, .int .i64 y.k.c, .int .i64 y.k.e] _ (fun j u hu => by
    have hj := (List.getElem?_eq_some_iff.1 hu).1
    have := blkB_range (l := y.cells) h (1 + j) u (by
      have e : y.cells = [.string (str y.nm)] ++ ([.int .i64 y.k.t, .int .i64 y.k.c, .int .i64 y.k.e] ++ [.slice y.A y.n y.c, .bool y.dr]) := rfl
      rw [e, List.getElem?_append_right (by simp), List.getElem?_append_left (by simp at hj ⊢; omega)]
      simpa using hu)
    rwa [Nat.zero_add] at this) Tryz.underlying54 rfl (by kernel_rfl)
section
variable {C : Ob → Ob} {w wr : World} {gd gv gc gs n m : Nat} {d : St} {v : Va} {c : Ce} {L : List Bb} {dn : Bool} {X U : Nat → Prop} {A : Option Addr} {q : Nat} {l : List Hc}
theorem vopen_on (hC : Foc C) (h : On w (C (VtO gv v)) wr X) (k : Ky) (hk : k.wf) (b : List UInt8) (hd : Nat) (hh : hd < 18446744073709551616) :
    Calls Tryz.prog 94 #[.pointer (some ⟨gv, 0, none⟩), (.agg #[.int .i64 (k).t, .int .i64 (k).c, .int .i64 (k).e]), .string (str b), .int .u64 (hd : Int)] wr fun e w' => ∃ A n c, e = .returned (.tuple #[.slice A n c, .int .i64 (opE v k b hd)]) ∧ Below wr.heap.size wr w' := by
  obtain ⟨F, h1, _⟩ := h.at_ hC
  refine (open_any wr F gv v h1 k hk b (hd : Int) hd rfl hh).mono ?_
  rintro e w' ⟨A, n, c, rfl, _, _, hb⟩
  exact ⟨A, n, c, rfl, hb⟩
/-- Is the key of a blob that is laid destroyed? -/
def kgB (v : Va) (l : List Hc) : Prop := ∃ x ∈ l, x.dr = false ∧ x.k ∈ v.G
instance (v : Va) (l : List Hc) : Decidable (kgB v l) := inferInstanceAs (Decidable (∃ x ∈ l, _))
set_option maxRecDepth 100000 in
set_option maxHeartbeats 4000000 in
theorem keyGone_on (hC : Foc C) (hOk : ∀ P : Ob, P.Ok → (C P).Ok) (hO : On w (C (TS gd d gv v gc c gs m L dn)) wr X) (h : ChOn U wr A n l) (hn : n ≤ 1000000) :
    Calls Tryz.prog 52 #[.pointer (some ⟨gs, 0, none⟩), .slice A n q] wr fun e w' => e = .returned (.bool (decide (kgB v l))) ∧ Below wr.heap.size wr w' := by
  have HH := hid h
  have HO := hid hO
  have HOK := hid hOk
  have HN := hid hn
  have HLN : Hid (l.length = n) := hid h.len
  clear h hO hOk
  go_enter Tryz.func52, Tryz.ntmps52
  go_wp2_with fail
  go_loopg [11] n (fun kk iv w2 => ∃ (j : Nat), iv = .int .i64 (j : Int) ∧ Hid (kk = n - j) ∧ Hid (j ≤ n) ∧ Hid (∀ x ∈ l.take j, ¬ (x.dr = false ∧ x.k ∈ v.G)) ∧ Hid (Below wr.heap.size wr w2))
  case atStart => exact ⟨0, rfl, hid (by omega), hid (Nat.zero_le _), hid (fun x hx => by simp at hx), hid (Below.refl _ _)⟩
  case round =>
  obtain ⟨j, rfl, hgk, hj, hok, hB⟩ := hrel
  rename World => w2
  rcases Nat.lt_or_ge j n with hlt | hge
  · have HJN := hid hlt
    have hjl : j < l.length := by rw [HLN.out]; exact hlt
    have j1 : (0 : Int) ≤ (j : Int) := by omega
    have j2 : (j : Int) < (n : Int) := by omega
    have j3 : decide ((j : Int) < (n : Int)) = true := by simpa using hlt
    have j4 : decide (j < n) = true := by simpa using hlt
    have wj : wrap64 ((j : Int) + 1) = ((j + 1 : Nat) : Int) := by have := HN.out; unfold wrap64; omega
    obtain ⟨lb, off, rfl, -, hbl, hr0, hx0⟩ := (HH.out.keep hB.out.size (fun q _ hq => hB.out.block q hq)).at_ hjl
    have HX := hid hx0
    have HXM := hid (List.getElem_mem hjl)
    have HTK := hid (List.take_succ_eq_append_getElem hjl)
    have HPU : Hid (∀ x' : Hc, x' ∈ l.take (j + 1) → x' ∈ l.take j ∨ x' = l[j]) := hid (fun x' hx' => by rw [HTK.out, List.mem_append, List.mem_singleton] at hx'; exact hx')
    generalize l[j] = x at *
    obtain ⟨c0, c1, c2, c3, c4, c5⟩ := range6 hr0
    have hb2 : Below w2.heap.size w2 (w2.alloc (.cells #[.string (str (x).nm), .int .i64 (x).k.t, .int .i64 (x).k.c, .int .i64 (x).k.e, .slice (x).A (x).n (x).c, .bool (x).dr] 94)) := (Below.refl _ _).alloc (Nat.le_refl _) _
    have HB2 := hid (hB.out.trans (hb2.mono hB.out.size))
    have hk2 := Blk.new w2 94 #[.string (str (x).nm), .int .i64 (x).k.t, .int .i64 (x).k.c, .int .i64 (x).k.e, .slice (x).A (x).n (x).c, .bool (x).dr]
    have HK2 := hid hk2
    obtain ⟨x0, x1, x2, x3, x4, x5⟩ := hcB_cells (x := x) hk2
    clear hlt hjl hbl hr0 hx0 hb2 hB hk2 HTK
    cases hdr : x.dr
    case true =>
      have HOK2 : Hid (∀ y ∈ l.take (j + 1), ¬ (y.dr = false ∧ y.k ∈ v.G)) := hid (fun y hy => by
        rcases HPU.out y hy with hy | hy
        · exact hok.out y hy
        · rw [hy, hdr]; rintro ⟨e, _⟩; cases e)
      rw [hdr] at c5
      have HB3 : Hid (Below wr.heap.size wr (w2.alloc (.cells #[.string (str x.nm), .int .i64 x.k.t, .int .i64 x.k.c, .int .i64 x.k.e, .slice x.A x.n x.c, .bool true] 94))) := hid (by have := HB2.out; rwa [hdr] at this)
      clear hdr hok x0 x1 x2 x3 x4 x5 HB2 HK2
      go_wp2_with fail
      go_roundg (n - (j + 1))
      case measure => have := hgk.out; have := HJN.out; omega
      case rel => exact ⟨j + 1, by first | rfl | rw [wj], hid rfl, hid HJN.out, HOK2, HB3⟩
    case false =>
    have HDR := hid hdr
    have hx5 := hdr
    rw [hdr] at x5
    have HO3 := hid (HO.out.go (HOK.out _ (TS.ok _ _ _ _ _ _ _ _ _ _)) HB2.out.drew)
    have HB3 := hid HB2.out.drew
    have HK3 : Hid (Blk (w2.alloc (.cells #[.string (str (x).nm), .int .i64 (x).k.t, .int .i64 (x).k.c, .int .i64 (x).k.e, .slice (x).A (x).n (x).c, .bool (x).dr] 94)).drew w2.heap.size 94 #[.string (str (x).nm), .int .i64 (x).k.t, .int .i64 (x).k.c, .int .i64 (x).k.e, .slice (x).A (x).n (x).c, .bool (x).dr]) := hid HK2.out
    have HSX : Hid (∃ mb rb k s, SoB (w2.alloc (.cells #[.string (str (x).nm), .int .i64 (x).k.t, .int .i64 (x).k.c, .int .i64 (x).k.e, .slice (x).A (x).n (x).c, .bool (x).dr] 94)).drew gs gd gv gc m L dn mb rb k s) := hid (so_at (hC.comp (ts_s gd d gv v gc c)) HO3.out)
    obtain ⟨mb, rb, k, s, hS3⟩ := HSX.out
    have HS3 := hid hS3
    have HDE : Hid ((w2.alloc (.cells #[.string (str x.nm), .int .i64 x.k.t, .int .i64 x.k.c, .int .i64 x.k.e, .slice x.A x.n x.c, .bool false] 94)) = w2.alloc (.cells #[.string (str (x).nm), .int .i64 (x).k.t, .int .i64 (x).k.c, .int .i64 (x).k.e, .slice (x).A (x).n (x).c, .bool (x).dr] 94)) := hid (by rw [hdr])
    rw [hdr] at c5
    clear hdr hS3 HSX hx5 HB2 HK2
    go_wp2_with fail
    rw [HDE.out]
    clear HDE
    generalize w2.heap.size = bx at *
    refine wp_region_held_drew (S := fun wx => wx.cell? ⟨gs, 1, none⟩ = some (.pointer (some ⟨gv, 0, none⟩)) ∧ Blk wx bx 94 #[.string (str (x).nm), .int .i64 (x).k.t, .int .i64 (x).k.c, .int .i64 (x).k.e, .slice (x).A (x).n (x).c, .bool (x).dr]) (by kernel_rfl) ⟨HS3.out.cells.2.1, HK3.out⟩ (fun HS => ?_)
    generalize (w2.alloc (.cells #[.string (str (x).nm), .int .i64 (x).k.t, .int .i64 (x).k.c, .int .i64 (x).k.e, .slice (x).A (x).n (x).c, .bool (x).dr] 94)).drew = w3 at *
    refine wpAnyH_take (i := 0) (oi := ?oi0) (v := ?v0) ?hi0 (by kernel_rfl) (by kernel_rfl) (by kernel_rfl) ?hQ0 ?hy0 HS ?rest0
    case hi0 => simp only [List.getElem?_toArray, List.getElem?_cons_zero]; exact rfl
    case hQ0 => exact fun _ _ _ h => h
    case hy0 =>
      refine Or.inl ⟨by rfl, ?_⟩
      intro wS hSw
      have y1 := hSw.1
      go_simp
      try with_reducible rfl
    try simp only [Act.put, List.setIfInBounds_toArray, List.set_cons_zero, List.set_cons_succ]
    refine wpAnyH_take (i := 1) (oi := ?oi1) (v := ?v1) ?hi1 (by kernel_rfl) (by kernel_rfl) (by kernel_rfl) ?hQ1 ?hy1 HS ?rest1
    case hi1 => simp only [List.getElem?_toArray, List.getElem?_cons_succ, List.getElem?_cons_zero]; exact rfl
    case hQ1 => exact fun _ _ _ h => h
    case hy1 =>
      refine Or.inl ⟨by rfl, ?_⟩
      intro wS hSw
      have y1 := hSw.1
      go_simp
      try with_reducible rfl
    try simp only [Act.put, List.setIfInBounds_toArray, List.set_cons_zero, List.set_cons_succ]
    refine wpAnyH_take (i := 2) (oi := ?oi2) (v := ?v2) ?hi2 (by kernel_rfl) (by kernel_rfl) (by kernel_rfl) ?hQ2 ?hy2 HS ?rest2
    case hi2 => simp only [List.getElem?_toArray, List.getElem?_cons_succ, List.getElem?_cons_zero]; exact rfl
    case hQ2 => exact fun _ _ _ h => h
    case hy2 =>
      refine Or.inl ⟨by rfl, ?_⟩
      intro wS hSw
      have y1 := hSw.1
      go_simp
      try with_reducible rfl
    try simp only [Act.put, List.setIfInBounds_toArray, List.set_cons_zero, List.set_cons_succ]
    refine wpAnyH_take (i := 3) (oi := ?oi3) (v := ?v3) ?hi3 (by kernel_rfl) (by kernel_rfl) (by kernel_rfl) ?hQ3 ?hy3 HS ?rest3
    case hi3 => simp only [List.getElem?_toArray, List.getElem?_cons_succ, List.getElem?_cons_zero]; exact rfl
    case hQ3 => exact fun _ _ _ h => h
    case hy3 =>
      refine Or.inl ⟨by rfl, ?_⟩
      intro wS hSw
      have y1 := hSw.1
      go_simp
      try with_reducible rfl
    try simp only [Act.put, List.setIfInBounds_toArray, List.set_cons_zero, List.set_cons_succ]
    refine wpAnyH_take (i := 4) (oi := ?oi4) (v := ?v4) ?hi4 (by kernel_rfl) (by kernel_rfl) (by kernel_rfl) ?hQ4 ?hy4 HS ?rest4
    case hi4 => simp only [List.getElem?_toArray, List.getElem?_cons_succ, List.getElem?_cons_zero]; exact rfl
    case hQ4 => exact fun _ _ _ h => h
    case hy4 =>
      refine Or.inl ⟨by rfl, ?_⟩
      intro wS hSw
      have y1 := hSw.1
      go_simp
      try with_reducible rfl
    try simp only [Act.put, List.setIfInBounds_toArray, List.set_cons_zero, List.set_cons_succ]
    refine wpAnyH_take (i := 5) (oi := ?oi5) (v := ?v5) ?hi5 (by kernel_rfl) (by kernel_rfl) (by kernel_rfl) ?hQ5 ?hy5 HS ?rest5
    case hi5 => simp only [List.getElem?_toArray, List.getElem?_cons_succ, List.getElem?_cons_zero]; exact rfl
    case hQ5 => exact fun _ _ _ h => h
    case hy5 =>
      refine Or.inl ⟨by rfl, ?_⟩
      intro wS hSw
      refine Eq.trans (exec_loadK (.tmp 22) ?_ ?_ hSw.2) ?_
      all_goals rfl
    try simp only [Act.put, List.setIfInBounds_toArray, List.set_cons_zero, List.set_cons_succ]
    refine wpAnyH_ready (rs := [6]) (by kernel_rfl) (by simp) ?_
    refine AllReadyH.cons (o := ?o6) ?ho6 (fun K hK => ?step6) AllReadyH.nil
    case ho6 => simp only [List.getElem?_toArray, List.getElem?_cons_succ, List.getElem?_cons_zero]; exact rfl
    go_simp
    refine (vopen_on (hC.comp ((ts_t gs gd gv gc m L dn).comp (tc_v gd d gc c))) HO3.out x.k HX.out.k [] 0 (by decide)).mono ?_
    rintro e w5 ⟨A5, n5, k5, rfl, hb5⟩
    have hB5 := hid (HB3.out.trans (hb5.mono HB3.out.size))
    have HS5 := hid (HS3.out.bel hb5)
    have HK5 := hid (HK3.out.keep (hb5.block _ HK3.out.lt))
    clear hb5 HB3 HK3 HS3 HO3
    refine hK.out _ _ ⟨HS5.out.cells.2.1, HK5.out⟩ (fun HS => ?_)
    clear hK K
    try simp only [Act.put, List.setIfInBounds_toArray, List.set_cons_zero, List.set_cons_succ]
    refine wpAnyH_take (i := 7) (oi := ?oi7) (v := ?v7) ?hi7 (by kernel_rfl) (by kernel_rfl) (by kernel_rfl) ?hQ7 ?hy7 HS ?rest7
    case hi7 => simp only [List.getElem?_toArray, List.getElem?_cons_succ, List.getElem?_cons_zero]; exact rfl
    case hQ7 => exact fun _ _ _ h => h
    case hy7 =>
      refine Or.inl ⟨by rfl, ?_⟩
      intro wS hSw
      go_simp
      try with_reducible rfl
    try simp only [Act.put, List.setIfInBounds_toArray, List.set_cons_zero, List.set_cons_succ]
    refine wpAnyH_take (i := 8) (oi := ?oi8) (v := ?v8) ?hi8 (by kernel_rfl) (by kernel_rfl) (by kernel_rfl) ?hQ8 ?hy8 HS ?rest8
    case hi8 => simp only [List.getElem?_toArray, List.getElem?_cons_succ, List.getElem?_cons_zero]; exact rfl
    case hQ8 => exact fun _ _ _ h => h
    case hy8 =>
      refine Or.inl ⟨by rfl, ?_⟩
      intro wS hSw
      go_simp
      try with_reducible rfl
    try simp only [Act.put, List.setIfInBounds_toArray, List.set_cons_zero, List.set_cons_succ]
    refine wpAnyH_take (i := 9) (oi := ?oi9) (v := ?v9) ?hi9 (by kernel_rfl) (by kernel_rfl) (by kernel_rfl) ?hQ9 ?hy9 HS ?rest9
    case hi9 => simp only [List.getElem?_toArray, List.getElem?_cons_succ, List.getElem?_cons_zero]; exact rfl
    case hQ9 => exact fun _ _ _ h => h
    case hy9 =>
      refine Or.inl ⟨by rfl, ?_⟩
      intro wS hSw
      go_simp
      try with_reducible rfl
    try simp only [Act.put, List.setIfInBounds_toArray, List.set_cons_zero, List.set_cons_succ]
    refine wpAnyH_take (i := 10) (oi := ?oi10) (v := ?v10) ?hi10 (by kernel_rfl) (by kernel_rfl) (by kernel_rfl) ?hQ10 ?hy10 HS ?rest10
    case hi10 => simp only [List.getElem?_toArray, List.getElem?_cons_succ, List.getElem?_cons_zero]; exact rfl
    case hQ10 => exact fun _ _ _ h => h
    case hy10 =>
      refine Or.inl ⟨by rfl, ?_⟩
      intro wS hSw
      go_simp
      try with_reducible rfl
    try simp only [Act.put, List.setIfInBounds_toArray, List.set_cons_zero, List.set_cons_succ]
    refine wpAnyH_take (i := 11) (oi := ?oi11) (v := ?v11) ?hi11 (by kernel_rfl) (by kernel_rfl) (by kernel_rfl) ?hQ11 ?hy11 HS ?rest11
    case hi11 => simp only [List.getElem?_toArray, List.getElem?_cons_succ, List.getElem?_cons_zero]; exact rfl
    case hQ11 => exact fun _ _ _ h => h
    case hy11 =>
      refine Or.inl ⟨by rfl, ?_⟩
      intro wS hSw
      go_simp
      try with_reducible rfl
    try simp only [Act.put, List.setIfInBounds_toArray, List.set_cons_zero, List.set_cons_succ]
    refine wpAnyH_done (by kernel_rfl) ?_ _
    clear HS HS5 HK5
    have HB5 := hB5
    clear hB5
    by_cases hg : x.k ∈ v.G
    · have HF : Hid (decide (kgB v l) = true) := hid (decide_eq_true ⟨x, HXM.out, HDR.out, hg⟩)
      have hE := (opE_nil v x.k).2 hg
      rw [hE]
      clear hg hE hok
      go_wp2
      go_ret
      exact ⟨congrArg (fun b => Ending.returned (.bool b)) HF.out.symm, HB5.out⟩
    · have HOK2 : Hid (∀ y ∈ l.take (j + 1), ¬ (y.dr = false ∧ y.k ∈ v.G)) := hid (fun y hy => by
        rcases HPU.out y hy with hy | hy
        · exact hok.out y hy
        · rw [hy]; rintro ⟨_, e⟩; exact hg e)
      have hE : ¬ opE v x.k [] 0 = 50 := fun e => hg ((opE_nil v x.k).1 e)
      have z1 : (opE v x.k [] 0 == 50) = false := beq_eq_false_iff_ne.2 hE
      have z2 : decide (opE v x.k [] 0 = 50) = false := decide_eq_false hE
      generalize opE v x.k [] 0 = E5 at *
      clear hg hok
      go_wp2_with fail
      go_roundg (n - (j + 1))
      case measure => have := hgk.out; have := HJN.out; omega
      case rel => exact ⟨j + 1, by first | rfl | rw [wj], hid rfl, hid HJN.out, HOK2, HB5⟩
  · have hjn : j = n := by have := hj.out; omega
    subst hjn
    have j2 : ¬ (j : Int) < (j : Int) := by omega
    have HF : Hid (decide (kgB v l) = false) := hid (decide_eq_false (by
      rintro ⟨x, hx, h1, h2⟩
      have hT : l.take j = l := by rw [← HLN.out, List.take_length]
      exact hok.out x (by rw [hT]; exact hx) ⟨h1, h2⟩))
    clear hge hj hgk hok
    go_wp2
    go_ret
    exact ⟨congrArg (fun b => Ending.returned (.bool b)) HF.out.symm, hB.out⟩
end
end Go.Proofs.YtadhbjekbfdpiaaGreat
