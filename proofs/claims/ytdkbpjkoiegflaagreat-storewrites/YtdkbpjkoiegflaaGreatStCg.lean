/- Changes as they lie; what store.wrong and keyGone return. Nothing is assumed. -/
import Derived.Test.YtdkbpjkoiegflaaGreatStGt
namespace Go.Proofs.YtdkbpjkoiegflaaGreat
open Go.RowKit

/-- A change as it lies: its body's slice. -/
structure Hc where
  nm : List UInt8
  k : Ky
  A : Option Addr
  n : Nat
  c : Nat
  body : List UInt8
  dr : Bool
def Hc.cells (h : Hc) : List Value := [.string (str h.nm), .int .i64 h.k.t, .int .i64 h.k.c, .int .i64 h.k.e, .slice h.A h.n h.c, .bool h.dr]
def Hc.ch (h : Hc) : Ch := ⟨h.nm, h.k, h.body, h.dr⟩
/-- A change right in memory, its bytes in blocks of U. -/
structure HcOk (U : Nat → Prop) (w : World) (h : Hc) : Prop where
  b : Bts w 0 w.heap.size h.A h.n h.body
  u : 0 < h.n → ∀ q, h.A.map (·.block) = some q → U q
  k : h.k.wf
  nm : h.nm.length ≤ maxLen
  n : h.n ≤ 9223372036854775807
/-- A row of changes, all of it in blocks of U. -/
structure ChOn (U : Nat → Prop) (w : World) (A : Option Addr) (n : Nat) (l : List Hc) : Prop where
  len : l.length = n
  el : ∀ j (h : j < l.length), ∃ b off, A = some ⟨b, off, none⟩ ∧ U b ∧ b < w.heap.size ∧ w.rangeAt b (off + j * 6) l[j].cells ∧ HcOk U w l[j]
section
variable {U : Nat → Prop} {w w' : World} {A : Option Addr} {n : Nat} {l : List Hc}
theorem ChOn.at_ (h : ChOn U w A n l) {j : Nat} (hj : j < l.length) : ∃ b off, A = some ⟨b, off, none⟩ ∧ U b ∧ b < w.heap.size ∧ w.rangeAt b (off + j * 6) l[j].cells ∧ HcOk U w l[j] := h.el j hj
theorem HcOk.keep {h : Hc} (hh : HcOk U w h) (hs : w.heap.size ≤ w'.heap.size) (hk : ∀ b, U b → b < w.heap.size → w'.heap[b]? = w.heap[b]?) : HcOk U w' h := by
  refine ⟨?_, hh.u, hh.k, hh.nm, hh.n⟩
  refine ⟨hh.b.1, fun hn => ?_⟩
  obtain ⟨b, off, e, h1, h2, hc⟩ := hh.b.2 hn
  exact ⟨b, off, e, h1, Nat.lt_of_lt_of_le h2 hs, fun j u hu => (World.cell?_of_block (a := ⟨b, off + j, none⟩) (hk b (hh.u hn b (by rw [e]; rfl)) h2)).trans (hc j u hu)⟩
theorem ChOn.keep (h : ChOn U w A n l) (hs : w.heap.size ≤ w'.heap.size) (hk : ∀ b, U b → b < w.heap.size → w'.heap[b]? = w.heap[b]?) : ChOn U w' A n l :=
  ⟨h.len, fun j hj => by
    obtain ⟨b, off, h1, h2, h3, h4, h5⟩ := h.el j hj
    exact ⟨b, off, h1, h2, Nat.lt_of_lt_of_le h3 hs, rangeAt_keep h4 (hk b h2 h3), h5.keep hs hk⟩⟩
theorem ChOn.bel (h : ChOn U w A n l) (hb : Below w.heap.size w w') : ChOn U w' A n l := h.keep hb.size fun b _ hq => hb.block b hq
end
theorem range6 {w : World} {b o : Nat} {x : Hc} (h : w.rangeAt b o x.cells) : w.cell? ⟨b, o, none⟩ = some (.string (str x.nm)) ∧ w.cell? ⟨b, o + 1, none⟩ = some (.int .i64 x.k.t) ∧ w.cell? ⟨b, o + 2, none⟩ = some (.int .i64 x.k.c) ∧ w.cell? ⟨b, o + 3, none⟩ = some (.int .i64 x.k.e) ∧ w.cell? ⟨b, o + 4, none⟩ = some (.slice x.A x.n x.c) ∧ w.cell? ⟨b, o + 5, none⟩ = some (.bool x.dr) :=
  ⟨h 0 _ rfl, h 1 _ rfl, h 2 _ rfl, h 3 _ rfl, h 4 _ rfl, h 5 _ rfl⟩
theorem hcB_cells {T : TypeId} {w : World} {b : Nat} {x : Hc} (h : Blk w b T #[.string (str (x).nm), .int .i64 (x).k.t, .int .i64 (x).k.c, .int .i64 (x).k.e, .slice (x).A (x).n (x).c, .bool (x).dr]) : w.cell? ⟨b, 0, none⟩ = some (.string (str x.nm)) ∧ w.cell? ⟨b, 1, none⟩ = some (.int .i64 x.k.t) ∧ w.cell? ⟨b, 2, none⟩ = some (.int .i64 x.k.c) ∧ w.cell? ⟨b, 3, none⟩ = some (.int .i64 x.k.e) ∧ w.cell? ⟨b, 4, none⟩ = some (.slice x.A x.n x.c) ∧ w.cell? ⟨b, 5, none⟩ = some (.bool x.dr) :=
  ⟨(Blk.cell h 0).trans rfl, (Blk.cell h 1).trans rfl, (Blk.cell h 2).trans rfl, (Blk.cell h 3).trans rfl, (Blk.cell h 4).trans rfl, (Blk.cell h 5).trans rfl⟩
theorem new_block {w w' : World} {O : Obj} (hg : (w.alloc O).grownBy w' (some w.heap.size)) : Below w.heap.size w w' :=
  ((Below.refl w.heap.size w).alloc (Nat.le_refl _) O).trans (grown_below hg (by simp) (fun k hk => by injection hk with hk; omega))
def nmLit (x : Hc) : Lit := .string x.nm
def nmSet (l : List Hc) : DataW Unit := Maps.setOf (.agg []) (l.map nmLit)
theorem nmSet_snoc {l : List Hc} {j : Nat} (hj : j < l.length) : nmSet (l.take (j + 1)) = (nmSet (l.take j)).put (.string l[j].nm) (.agg []) := by
  unfold nmSet
  rw [List.take_succ_eq_append_getElem hj, List.map_append]
  exact Maps.setOf_snoc _ _ _
theorem nmSet_len (l : List Hc) : Maps.size (nmSet l) ≤ l.length ∧ (Maps.size (nmSet l) = l.length ↔ ((l.map Hc.ch).map Ch.nm).Nodup) := by
  have h := setLen (.agg []) (l.map nmLit) (fun x hx => by obtain ⟨y, _, rfl⟩ := List.mem_map.1 hx; trivial)
  rw [List.length_map] at h
  refine ⟨h.1, h.2.trans ?_⟩
  have e : l.map nmLit = ((l.map Hc.ch).map Ch.nm).map (fun n => Lit.string n) := by rw [List.map_map, List.map_map]; rfl
  rw [e]
  exact lit_nodup _ (fun a b h => by injection h) _
theorem ck_bad {L : List Bb} {l : List Hc} {x : Hc} (hx : x ∈ l) (h : chBad x.ch) : ckE L (l.map Hc.ch) = 2 := if_pos (.inl ⟨x.ch, List.mem_map_of_mem hx, h⟩)
theorem ck_dup {L : List Bb} {l : List Hc} (h : ¬ ((l.map Hc.ch).map Ch.nm).Nodup) : ckE L (l.map Hc.ch) = 2 := if_pos (.inr h)
theorem ck_on {L : List Bb} {l : List Hc} (hb : ∀ x ∈ l, ¬ chBad x.ch) (hd : ((l.map Hc.ch).map Ch.nm).Nodup) : ckE L (l.map Hc.ch) = if ∃ x ∈ l, x.dr = true ∧ isB L x.nm = false then 90 else 0 := by
  unfold ckE
  rw [if_neg]
  · have e : (∃ x ∈ l.map Hc.ch, x.drop = true ∧ ¬ x.nm ∈ L.map Bb.nm) ↔ ∃ x ∈ l, x.dr = true ∧ isB L x.nm = false := by
      constructor
      · rintro ⟨x, hx, h1, h2⟩
        obtain ⟨y, hy, rfl⟩ := List.mem_map.1 hx
        exact ⟨y, hy, h1, by rw [← isB_dec]; exact decide_eq_false h2⟩
      · rintro ⟨y, hy, h1, h2⟩
        exact ⟨y.ch, List.mem_map_of_mem hy, h1, by rw [← isB_dec] at h2; exact of_decide_eq_false h2⟩
    by_cases h : ∃ x ∈ l, x.dr = true ∧ isB L x.nm = false
    · rw [if_pos h, if_pos (e.2 h)]
    · rw [if_neg h, if_neg fun h2 => h (e.1 h2)]
  · rintro (⟨x, hx, h⟩ | h)
    · obtain ⟨y, hy, rfl⟩ := List.mem_map.1 hx
      exact hb y hy h
    · exact h hd
section
variable {wr : World} {gd gv gc gs n mb rb k : Nat} {s : Sp} {L : List Bb} {dn : Bool} {U : Nat → Prop} {A : Option Addr} {c m : Nat} {l : List Hc}
set_option maxRecDepth 100000 in
set_option maxHeartbeats 4000000 in
theorem wrong_c (hS : SoB wr gs gd gv gc m L dn mb rb k s) (h : ChOn U wr A n l) (hn : n ≤ 1000000) :
    Calls Tryz.prog 50 #[.pointer (some ⟨gs, 0, none⟩), .slice A n c] wr fun e w' => e = .returned (.int .i64 (ckE L (l.map Hc.ch))) ∧ Below wr.heap.size wr w' := by
  have HH := hid h
  have HSO := hid hS
  have HN := hid hn
  have HLN : Hid (l.length = n) := hid h.len
  have HBAD := hid (fun (x : Hc) (hx : x ∈ l) (h : chBad x.ch) => @ck_bad L l x hx h)
  have HDUP := hid (@ck_dup L l)
  have HON := hid (@ck_on L l)
  generalize ckE L (l.map Hc.ch) = E at *
  clear h hS
  have hmm := fun (m : Int) (w : World) => run_makeMapN Tryz.underlying174 m w
  go_enter Tryz.func50, Tryz.ntmps50
  go_wp2_with fail
  clear hmm
  have HM0 : Hid ((wr.alloc (.map #[] 0)).ownsMap (H := Unit) Tryz.prog 9 unitElem wr.heap.size 0 (nmSet (l.take 0))) := hid (World.ownsMap_made (H := Unit) wr Tryz.prog 9 unitElem)
  have HB0 : Hid (Below wr.heap.size wr (wr.alloc (.map #[] 0))) := hid ((Below.refl _ _).alloc (Nat.le_refl _) _)
  go_loopg [17] n (fun kk iv w2 => ∃ (j : Nat), iv = .int .i64 (j : Int) ∧ Hid (kk = n - j) ∧ Hid (j ≤ n) ∧ Hid (∀ x ∈ l.take j, ¬ chBad x.ch) ∧ Hid (w2.ownsMap (H := Unit) Tryz.prog 9 unitElem wr.heap.size j (nmSet (l.take j))) ∧ Hid (Below wr.heap.size wr w2))
  case atStart => exact ⟨0, rfl, hid (by omega), hid (Nat.zero_le _), hid (fun x hx => by simp at hx), HM0, HB0⟩
  case round =>
  obtain ⟨j, rfl, hgk, hj, hok, hM, hB⟩ := hrel
  clear HM0 HB0
  rename World => w2
  rcases Nat.lt_or_ge j n with hlt | hge
  · have HJN := hid hlt
    have hjl : j < l.length := by rw [HLN.out]; exact hlt
    have j1 : (0 : Int) ≤ (j : Int) := by omega
    have j2 : (j : Int) < (n : Int) := by omega
    have j3 : decide ((j : Int) < (n : Int)) = true := by simpa using hlt
    have j4 : decide (j < n) = true := by simpa using hlt
    have wj : wrap64 ((j : Int) + 1) = ((j + 1 : Nat) : Int) := by have := HN.out; unfold wrap64; omega
    obtain ⟨lb, off, rfl, -, hbl, hr0, hx0⟩ := (HH.out.keep hB.out.size (fun q _ hq => hB.out.block q hq)).at_ hjl
    have HX := hid hx0
    have HXM := hid (List.getElem_mem hjl)
    have HSN := hid (nmSet_snoc hjl)
    have HTK := hid (List.take_succ_eq_append_getElem hjl)
    generalize l[j] = x at *
    obtain ⟨c0, c1, c2, c3, c4, c5⟩ := range6 hr0
    have hb2 : Below w2.heap.size w2 (w2.alloc (.cells #[.string (str (x).nm), .int .i64 (x).k.t, .int .i64 (x).k.c, .int .i64 (x).k.e, .slice (x).A (x).n (x).c, .bool (x).dr] 94)) := (Below.refl _ _).alloc (Nat.le_refl _) _
    have HM2 := hid (hM.out.alloc (.cells #[.string (str (x).nm), .int .i64 (x).k.t, .int .i64 (x).k.c, .int .i64 (x).k.e, .slice (x).A (x).n (x).c, .bool (x).dr] 94))
    have HB2 := hid (hB.out.trans (hb2.mono hB.out.size))
    have hk2 := Blk.new w2 94 #[.string (str (x).nm), .int .i64 (x).k.t, .int .i64 (x).k.c, .int .i64 (x).k.e, .slice (x).A (x).n (x).c, .bool (x).dr]
    have HK2 := hid hk2
    obtain ⟨x0, x1, x2, x3, x4, x5⟩ := hcB_cells (x := x) hk2
    have HBL : Hid (x.body.length = x.n) := hid HX.out.b.1
    clear hlt hjl hbl hr0 hx0 hb2 hk2 hM hB
    go_wp2_with fail
    refine (rightName_c x.nm _).mono ?_
    rintro e w' ⟨rfl, rfl⟩
    by_cases h1 : nmOk x.nm
    case neg =>
      rw [decide_eq_false h1]
      have HE := hid (HBAD.out _ HXM.out (.inl h1))
      clear h1
      go_wp2
      go_ret
      exact ⟨by rw [HE.out]; rfl, HB2.out⟩
    rw [decide_eq_true h1]
    have HNM := hid h1
    clear h1
    go_wp2_with fail
    refine (rightKey_c x.k _).mono ?_
    rintro e w3 ⟨rfl, hb3⟩
    have HB3 := hid (HB2.out.trans (hb3.mono HB2.out.size))
    have hk3 := HK2.out.keep (hb3.block _ HK2.out.lt)
    have HM3 := hid (ownsMap_keep HM2.out (hb3.block _ (World.ownsMap.lt HM2.out)))
    clear x0 x1 x2 x3 x4 x5 c0 c1 c2 c3 c4 c5
    obtain ⟨x0, x1, x2, x3, x4, x5⟩ := hcB_cells (x := x) hk3
    clear hb3 hk3 HB2 HK2 HM2
    by_cases h2 : x.k.right
    case neg =>
      rw [decide_eq_false h2]
      have HE := hid (HBAD.out _ HXM.out (.inr (.inl h2)))
      clear h2
      go_wp2
      go_ret
      exact ⟨by rw [HE.out]; rfl, HB3.out⟩
    rw [decide_eq_true h2]
    have HKR := hid h2
    clear h2
    by_cases h3 : 65536 < x.n
    · have m1 : decide ((x.n : Int) > 65536) = true := decide_eq_true (by omega)
      have m2 : decide ((65536 : Int) < (x.n : Int)) = true := decide_eq_true (by omega)
      have m3 : decide (65536 < x.n) = true := decide_eq_true h3
      have HE := hid (HBAD.out _ HXM.out (.inr (.inr (show 65536 < x.body.length by rw [HBL.out]; exact h3))))
      clear h3
      go_wp2
      go_ret
      exact ⟨by rw [HE.out]; rfl, HB3.out⟩
    · have m1 : decide ((x.n : Int) > 65536) = false := decide_eq_false (by omega)
      have m2 : decide ((65536 : Int) < (x.n : Int)) = false := decide_eq_false (by omega)
      have m3 : decide (65536 < x.n) = false := decide_eq_false h3
      have HOK : Hid (∀ y ∈ l.take (j + 1), ¬ chBad y.ch) := hid (fun y hy => by
        rw [HTK.out, List.mem_append, List.mem_singleton] at hy
        rcases hy with hy | hy
        · exact hok.out y hy
        · rw [hy]
          rintro (e | e | e)
          · exact e HNM.out
          · exact e HKR.out
          · have : 65536 < x.body.length := e
            rw [HBL.out] at this
            exact h3 this)
      have hnl : j < maxLen := by have := HJN.out; have := HN.out; unfold maxLen; omega
      have HKY : Hid (keyOf Tryz.prog 9 (.string (str x.nm)) = some (.string x.nm)) := hid (key_str HX.out.nm)
      clear h3 hok
      go_wp2_with (at_mapUpdate; refine wpList_mapUpdate_own _ rfl _ _ _ 174 rfl 9 148 Tryz.lawStr Tryz.underlying174 unitElem wr.heap.size j _ rfl HM3.out hnl _ _ (.string x.nm) rfl rfl HKY.out (.agg []) [] unitElem_mk ?_)
      intro w4 hM4 hg4
      have HM4 : Hid (w4.ownsMap (H := Unit) Tryz.prog 9 unitElem wr.heap.size (j + 1) (nmSet (l.take (j + 1)))) := hid (by rw [HSN.out]; exact hM4)
      have HB4 := hid (HB3.out.grown hg4 HB3.out.size (fun k hk => by injection hk with hk; omega))
      clear hM4 hg4 x0 x1 x2 x3 x4 x5 m1 m2 m3 HM3 HB3 hnl
      go_wp2_with fail
      go_roundg (n - (j + 1))
      case measure => have := hgk.out; have := HJN.out; omega
      case rel => exact ⟨j + 1, by first | rfl | rw [wj], hid rfl, hid HJN.out, HOK, HM4, HB4⟩
  · have hjn : j = n := by have := hj.out; omega
    subst hjn
    have j2 : ¬ (j : Int) < (j : Int) := by omega
    have HT : Hid (l.take j = l) := hid (by rw [← HLN.out, List.take_length])
    have HOKL : Hid (∀ x ∈ l, ¬ chBad x.ch) := hid (by have := hok.out; rwa [HT.out] at this)
    have hlen := World.ownsMap.len hM.out Tryz.underlying174
    rw [HT.out] at hlen
    have hq := nmSet_len l
    rw [HLN.out] at hq
    generalize Maps.size (nmSet l) = q at *
    clear hge hj hgk hM hok
    by_cases e : q = j
    case neg =>
      have HE := hid (HDUP.out fun h => e (hq.2.2 h))
      have e1 : decide ((q : Int) < (j : Int)) = true := decide_eq_true (by have := hq.1; omega)
      have e2 : decide (q < j) = true := decide_eq_true (by have := hq.1; omega)
      clear e hq
      go_wp2
      go_ret
      exact ⟨by rw [HE.out]; rfl, hB.out⟩
    have HE := hid (HON.out HOKL.out (hq.2.1 e))
    subst e
    clear hq
    go_wp2_with fail
    clear hlen
    go_loopg [49] q (fun kk iv w3 => ∃ (j : Nat), iv = .int .i64 (j : Int) ∧ Hid (kk = q - j) ∧ Hid (j ≤ q) ∧ Hid (∀ x ∈ l.take j, ¬ (x.dr = true ∧ isB L x.nm = false)) ∧ Hid (Below wr.heap.size wr w3))
    case atStart => exact ⟨0, rfl, hid (by omega), hid (Nat.zero_le _), hid (fun x hx => by simp at hx), hB⟩
    case round =>
    obtain ⟨j, rfl, hgk, hj, hok, hB⟩ := hrel
    rename World => w3
    rcases Nat.lt_or_ge j q with hlt | hge
    · have HJN := hid hlt
      have hjl : j < l.length := by rw [HLN.out]; exact hlt
      have j1 : (0 : Int) ≤ (j : Int) := by omega
      have j2 : (j : Int) < (q : Int) := by omega
      have j3 : decide ((j : Int) < (q : Int)) = true := by simpa using hlt
      have j4 : decide (j < q) = true := by simpa using hlt
      have wj : wrap64 ((j : Int) + 1) = ((j + 1 : Nat) : Int) := by have := HN.out; unfold wrap64; omega
      obtain ⟨lb, off, rfl, -, hbl, hr0, hx0⟩ := (HH.out.keep hB.out.size (fun q _ hq => hB.out.block q hq)).at_ hjl
      have HX := hid hx0
      have HXM := hid (List.getElem_mem hjl)
      have HTK := hid (List.take_succ_eq_append_getElem hjl)
      generalize l[j] = x at *
      obtain ⟨c0, c1, c2, c3, c4, c5⟩ := range6 hr0
      have hb2 : Below w3.heap.size w3 (w3.alloc (.cells #[.string (str (x).nm), .int .i64 (x).k.t, .int .i64 (x).k.c, .int .i64 (x).k.e, .slice (x).A (x).n (x).c, .bool (x).dr] 94)) := (Below.refl _ _).alloc (Nat.le_refl _) _
      have HB2 := hid (hB.out.trans (hb2.mono hB.out.size))
      have HK2 := hid (Blk.new w3 94 #[.string (str (x).nm), .int .i64 (x).k.t, .int .i64 (x).k.c, .int .i64 (x).k.e, .slice (x).A (x).n (x).c, .bool (x).dr])
      clear hlt hjl hbl hr0 hx0 hb2 hB
      go_wp2_with fail
      generalize w3.heap.size = bx at *
      have HB3 := hid HB2.out.drew
      have HK3 : Hid (Blk (w3.alloc (.cells #[.string (str (x).nm), .int .i64 (x).k.t, .int .i64 (x).k.c, .int .i64 (x).k.e, .slice (x).A (x).n (x).c, .bool (x).dr] 94)).drew bx 94 #[.string (str (x).nm), .int .i64 (x).k.t, .int .i64 (x).k.c, .int .i64 (x).k.e, .slice (x).A (x).n (x).c, .bool (x).dr]) := hid HK2.out
      have HS3 := hid (HSO.out.bel HB3.out)
      clear HB2 HK2 c0 c1 c2 c3 c4 c5
      refine wp_region_held_drew (S := fun wx => wx.cell? ⟨gs, 3, none⟩ = some (.map (some mb)) ∧ Blk wx bx 94 #[.string (str (x).nm), .int .i64 (x).k.t, .int .i64 (x).k.c, .int .i64 (x).k.e, .slice (x).A (x).n (x).c, .bool (x).dr] ∧ BMp wx mb L) (by kernel_rfl) ⟨HS3.out.cells.2.2.2.1, HK3.out, HS3.out.map⟩ (fun HS => ?_)
      generalize (w3.alloc (.cells #[.string (str (x).nm), .int .i64 (x).k.t, .int .i64 (x).k.c, .int .i64 (x).k.e, .slice (x).A (x).n (x).c, .bool (x).dr] 94)).drew = w4 at *
      refine wpAnyH_take (i := 0) (oi := ?oi0) (v := ?v0) ?hi0 (by kernel_rfl) (by kernel_rfl) (by kernel_rfl) ?hQ0 ?hy0 HS ?rest0
      case hi0 => simp only [List.getElem?_toArray, List.getElem?_cons_zero]; exact rfl
      case hQ0 => exact fun _ _ _ h => h
      case hy0 =>
        refine Or.inl ⟨by rfl, ?_⟩
        intro wS hSw
        have y3 := hSw.1
        go_simp
        try with_reducible rfl
      try simp only [Act.put, List.setIfInBounds_toArray, List.set_cons_zero, List.set_cons_succ]
      refine wpAnyH_take (i := 1) (oi := ?oi1) (v := ?v1) ?hi1 (by kernel_rfl) (by kernel_rfl) (by kernel_rfl) ?hQ1 ?hy1 HS ?rest1
      case hi1 => simp only [List.getElem?_toArray, List.getElem?_cons_succ, List.getElem?_cons_zero]; exact rfl
      case hQ1 => exact fun _ _ _ h => h
      case hy1 =>
        refine Or.inl ⟨by rfl, ?_⟩
        intro wS hSw
        have y3 := hSw.1
        go_simp
        try with_reducible rfl
      try simp only [Act.put, List.setIfInBounds_toArray, List.set_cons_zero, List.set_cons_succ]
      refine wpAnyH_take (i := 2) (oi := ?oi2) (v := ?v2) ?hi2 (by kernel_rfl) (by kernel_rfl) (by kernel_rfl) ?hQ2 ?hy2 HS ?rest2
      case hi2 => simp only [List.getElem?_toArray, List.getElem?_cons_succ, List.getElem?_cons_zero]; exact rfl
      case hQ2 => exact fun _ _ _ h => h
      case hy2 =>
        refine Or.inl ⟨by rfl, ?_⟩
        intro wS hSw
        have y3 := hSw.1
        go_simp
        try with_reducible rfl
      try simp only [Act.put, List.setIfInBounds_toArray, List.set_cons_zero, List.set_cons_succ]
      refine wpAnyH_take (i := 3) (oi := ?oi3) (v := ?v3) ?hi3 (by kernel_rfl) (by kernel_rfl) (by kernel_rfl) ?hQ3 ?hy3 HS ?rest3
      case hi3 => simp only [List.getElem?_toArray, List.getElem?_cons_succ, List.getElem?_cons_zero]; exact rfl
      case hQ3 => exact fun _ _ _ h => h
      case hy3 =>
        refine Or.inl ⟨by rfl, ?_⟩
        intro wS hSw
        have y3 := hSw.1
        go_simp
        try with_reducible rfl
      try simp only [Act.put, List.setIfInBounds_toArray, List.set_cons_zero, List.set_cons_succ]
      refine wpAnyH_take (i := 4) (oi := ?oi4) (v := ?v4) ?hi4 (by kernel_rfl) (by kernel_rfl) (by kernel_rfl) ?hQ4 ?hy4 HS ?rest4
      case hi4 => simp only [List.getElem?_toArray, List.getElem?_cons_succ, List.getElem?_cons_zero]; exact rfl
      case hQ4 => exact fun _ _ _ h => h
      case hy4 =>
        refine Or.inl ⟨by rfl, ?_⟩
        intro wS hSw
        have y3 := hSw.1
        go_simp
        try with_reducible rfl
      try simp only [Act.put, List.setIfInBounds_toArray, List.set_cons_zero, List.set_cons_succ]
      refine wpAnyH_take (i := 5) (oi := ?oi5) (v := ?v5) ?hi5 (by kernel_rfl) (by kernel_rfl) (by kernel_rfl) ?hQ5 ?hy5 HS ?rest5
      case hi5 => simp only [List.getElem?_toArray, List.getElem?_cons_succ, List.getElem?_cons_zero]; exact rfl
      case hQ5 => exact fun _ _ _ h => h
      case hy5 =>
        refine Or.inl ⟨by rfl, ?_⟩
        intro wS hSw
        have y3 := (hcB_cells (x := x) hSw.2.1).1
        go_simp
        try with_reducible rfl
      try simp only [Act.put, List.setIfInBounds_toArray, List.set_cons_zero, List.set_cons_succ]
      refine wpAnyH_take (i := 6) (oi := ?oi6) (v := ?v6) ?hi6 (by kernel_rfl) (by kernel_rfl) (by kernel_rfl) ?hQ6 ?hy6 HS ?rest6
      case hi6 => simp only [List.getElem?_toArray, List.getElem?_cons_succ, List.getElem?_cons_zero]; exact rfl
      case hQ6 => exact fun _ _ _ h => h
      case hy6 =>
        refine Or.inl ⟨by rfl, ?_⟩
        intro wS hSw
        have y3 := hSw.2.2.look HX.out.nm
        unfold Bb.val Bb.cells at y3
        go_simp
        try with_reducible rfl
      try simp only [Act.put, List.setIfInBounds_toArray, List.set_cons_zero, List.set_cons_succ]
      refine wpAnyH_take (i := 7) (oi := ?oi7) (v := ?v7) ?hi7 (by kernel_rfl) (by kernel_rfl) (by kernel_rfl) ?hQ7 ?hy7 HS ?rest7
      case hi7 => simp only [List.getElem?_toArray, List.getElem?_cons_succ, List.getElem?_cons_zero]; exact rfl
      case hQ7 => exact fun _ _ _ h => h
      case hy7 =>
        refine Or.inl ⟨by rfl, ?_⟩
        intro wS hSw
        go_simp
        try with_reducible rfl
      try simp only [Act.put, List.setIfInBounds_toArray, List.set_cons_zero, List.set_cons_succ]
      refine wpAnyH_take (i := 8) (oi := ?oi8) (v := ?v8) ?hi8 (by kernel_rfl) (by kernel_rfl) (by kernel_rfl) ?hQ8 ?hy8 HS ?rest8
      case hi8 => simp only [List.getElem?_toArray, List.getElem?_cons_succ, List.getElem?_cons_zero]; exact rfl
      case hQ8 => exact fun _ _ _ h => h
      case hy8 =>
        refine Or.inl ⟨by rfl, ?_⟩
        intro wS hSw
        go_simp
        try with_reducible rfl
      try simp only [Act.put, List.setIfInBounds_toArray, List.set_cons_zero, List.set_cons_succ]
      refine wpAnyH_take (i := 9) (oi := ?oi9) (v := ?v9) ?hi9 (by kernel_rfl) (by kernel_rfl) (by kernel_rfl) ?hQ9 ?hy9 HS ?rest9
      case hi9 => simp only [List.getElem?_toArray, List.getElem?_cons_succ, List.getElem?_cons_zero]; exact rfl
      case hQ9 => exact fun _ _ _ h => h
      case hy9 =>
        refine Or.inl ⟨by rfl, ?_⟩
        intro wS hSw
        go_simp
        try with_reducible rfl
      try simp only [Act.put, List.setIfInBounds_toArray, List.set_cons_zero, List.set_cons_succ]
      refine wpAnyH_ready (rs := [10]) (by kernel_rfl) (by simp) ?_
      refine AllReadyH.cons (o := ?o10) ?ho10 (fun K hK => ?step10) AllReadyH.nil
      case ho10 => simp only [List.getElem?_toArray, List.getElem?_cons_succ, List.getElem?_cons_zero]; exact rfl
      go_simp
      refine hK.out _ _ ⟨(HS3.out.bel (((Below.refl w4.heap.size w4).alloc (Nat.le_refl _) (.cells #[.string (str (bb0).nm), .int .i64 (bb0).k.t, .int .i64 (bb0).k.c, .int .i64 (bb0).k.e, .int .i64 (bb0).b, .int .i64 (bb0).p.k.t, .int .i64 (bb0).p.k.c, .int .i64 (bb0).p.k.e, .int .i64 (bb0).p.id, .int .i64 (bb0).p.ver, .int .i64 (bb0).sz] 90)))).cells.2.2.2.1, HK3.out.keep ((((Below.refl w4.heap.size w4).alloc (Nat.le_refl _) (.cells #[.string (str (bb0).nm), .int .i64 (bb0).k.t, .int .i64 (bb0).k.c, .int .i64 (bb0).k.e, .int .i64 (bb0).b, .int .i64 (bb0).p.k.t, .int .i64 (bb0).p.k.c, .int .i64 (bb0).p.k.e, .int .i64 (bb0).p.id, .int .i64 (bb0).p.ver, .int .i64 (bb0).sz] 90))).block bx HK3.out.lt), (HS3.out.bel (((Below.refl w4.heap.size w4).alloc (Nat.le_refl _) (.cells #[.string (str (bb0).nm), .int .i64 (bb0).k.t, .int .i64 (bb0).k.c, .int .i64 (bb0).k.e, .int .i64 (bb0).b, .int .i64 (bb0).p.k.t, .int .i64 (bb0).p.k.c, .int .i64 (bb0).p.k.e, .int .i64 (bb0).p.id, .int .i64 (bb0).p.ver, .int .i64 (bb0).sz] 90)))).map⟩ (fun HS => ?_)
      clear hK K
      try simp only [Act.put, List.setIfInBounds_toArray, List.set_cons_zero, List.set_cons_succ]
      refine wpAnyH_ready (rs := [11]) (by kernel_rfl) (by simp) ?_
      refine AllReadyH.cons (o := ?o11) ?ho11 (fun K hK => ?step11) AllReadyH.nil
      case ho11 => simp only [List.getElem?_toArray, List.getElem?_cons_succ, List.getElem?_cons_zero]; exact rfl
      refine wp_storeB _ _ rfl (Blk.new w4 90 #[.string (str (bb0).nm), .int .i64 (bb0).k.t, .int .i64 (bb0).k.c, .int .i64 (bb0).k.e, .int .i64 (bb0).b, .int .i64 (bb0).p.k.t, .int .i64 (bb0).p.k.c, .int .i64 (bb0).p.k.e, .int .i64 (bb0).p.id, .int .i64 (bb0).p.ver, .int .i64 (bb0).sz]) rfl rfl (getB L x.nm) rfl ?_
      intro w7 hB7 hg7
      have HW7 := hid (new_block hg7)
      clear hB7 hg7
      refine hK.out _ _ ⟨(HS3.out.bel HW7.out).cells.2.2.2.1, HK3.out.keep (HW7.out.block bx HK3.out.lt), (HS3.out.bel HW7.out).map⟩ (fun HS => ?_)
      clear hK K
      try simp only [Act.put]
      refine wpAnyH_take (i := 12) (oi := ?oi12) (v := ?v12) ?hi12 (by kernel_rfl) (by kernel_rfl) (by kernel_rfl) ?hQ12 ?hy12 HS ?rest12
      case hi12 => simp only [List.getElem?_toArray, List.getElem?_cons_succ, List.getElem?_cons_zero]; exact rfl
      case hQ12 => exact fun _ _ _ h => h
      case hy12 =>
        refine Or.inl ⟨by rfl, ?_⟩
        intro wS hSw
        go_simp
        try with_reducible rfl
      try simp only [Act.put, List.setIfInBounds_toArray, List.set_cons_zero, List.set_cons_succ]
      refine wpAnyH_done (by kernel_rfl) ?_ _
      clear HS
      have HB7 := hid (HB3.out.trans (HW7.out.mono HB3.out.size))
      have hk7 := HK3.out.keep (HW7.out.block bx HK3.out.lt)
      obtain ⟨x0, x1, x2, x3, x4, x5⟩ := hcB_cells (x := x) hk7
      clear hk7 HB3 HK3 HS3 HW7
      cases hdr : x.dr
      · have HOK : Hid (∀ y ∈ l.take (j + 1), ¬ (y.dr = true ∧ isB L y.nm = false)) := hid (fun y hy => by
          rw [HTK.out, List.mem_append, List.mem_singleton] at hy
          rcases hy with hy | hy
          · exact hok.out y hy
          · rw [hy, hdr]; rintro ⟨e, _⟩; cases e)
        rw [hdr] at x5
        clear hdr hok
        go_wp2_with fail
        go_roundg (q - (j + 1))
        case measure => have := hgk.out; have := HJN.out; omega
        case rel => exact ⟨j + 1, by first | rfl | rw [wj], hid rfl, hid HJN.out, HOK, HB7⟩
      · rw [hdr] at x5
        cases hib : isB L x.nm
        · have HE2 : Hid (E = 90) := hid (HE.out.trans (if_pos ⟨x, HXM.out, hdr, hib⟩))
          clear hdr hib hok
          go_wp2
          go_ret
          exact ⟨by rw [HE2.out]; rfl, HB7.out⟩
        · have HOK : Hid (∀ y ∈ l.take (j + 1), ¬ (y.dr = true ∧ isB L y.nm = false)) := hid (fun y hy => by
            rw [HTK.out, List.mem_append, List.mem_singleton] at hy
            rcases hy with hy | hy
            · exact hok.out y hy
            · rw [hy, hib]; rintro ⟨_, e⟩; cases e)
          clear hdr hib hok
          go_wp2_with fail
          go_roundg (q - (j + 1))
          case measure => have := hgk.out; have := HJN.out; omega
          case rel => exact ⟨j + 1, by first | rfl | rw [wj], hid rfl, hid HJN.out, HOK, HB7⟩
    · have hjn : j = q := by have := hj.out; omega
      subst hjn
      have j2 : ¬ (j : Int) < (j : Int) := by omega
      have HE2 : Hid (E = 0) := hid (HE.out.trans (if_neg (by
        rintro ⟨x, hx, h1, h2⟩
        have hT : l.take j = l := by rw [← HLN.out, List.take_length]
        exact hok.out x (by rw [hT]; exact hx) ⟨h1, h2⟩)))
      clear hge hj hgk hok
      go_wp2
      go_ret
      exact ⟨by rw [HE2.out]; rfl, hB.out⟩
end
end Go.Proofs.YtdkbpjkoiegflaaGreat
