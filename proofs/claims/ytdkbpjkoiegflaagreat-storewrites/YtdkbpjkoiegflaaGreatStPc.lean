/- What store.rising and store.apart return. Nothing is assumed. -/
import Derived.Test.YtdkbpjkoiegflaaGreatStPb
import Derived.BigQuiet
import Derived.Lib.SmallJoins
namespace Go.Proofs.YtdkbpjkoiegflaaGreat
open Go.RowKit

instance (y x : Bb) : Decidable (risen y x) := inferInstanceAs (Decidable (_ = true))
/-- Names that rise from one to the next rise. -/
theorem risen_of {l : List Bb} (h : ∀ i, ∀ h2 : i + 1 < l.length, risen (l[i]'(by omega)) l[i + 1]) : l.Pairwise risen := by
  rw [List.pairwise_iff_getElem]
  intro i j hi hj hij
  obtain ⟨d, rfl⟩ : ∃ d, j = i + d + 1 := ⟨j - i - 1, by omega⟩
  clear hij
  induction d with
  | zero => exact h i hj
  | succ d ih => exact less_trans (ih (by omega)) (h (i + d + 1) hj)
theorem of_risen {l : List Bb} (h : l.Pairwise risen) (i : Nat) (h2 : i + 1 < l.length) : risen (l[i]'(by omega)) l[i + 1] :=
  List.pairwise_iff_getElem.1 h i (i + 1) (by omega) h2 (by omega)
theorem lit_yes {acc : List Lit} {x : Lit} (hx : WideAt.IsKeyLit x) (h : x ∈ acc) : Maps.addKey acc x = acc := by
  unfold Maps.addKey
  have e : acc.any (fun y => y.sameKey x) = true := List.any_eq_true.2 ⟨x, h, WideAt.sameKey_self hx⟩
  rw [e]
  rfl
theorem lit_no {acc : List Lit} {x : Lit} (h : x ∉ acc) : Maps.addKey acc x = acc ++ [x] := by
  unfold Maps.addKey
  rw [if_neg]
  rw [List.any_eq_true]
  rintro ⟨y, h1, h2⟩
  rw [WideAt.sameKey_eq h2] at h1
  exact h h1
theorem fold_len : ∀ (xs acc : List Lit), (∀ x ∈ xs, WideAt.IsKeyLit x) → (xs.foldl Maps.addKey acc).length ≤ acc.length + xs.length ∧ ((xs.foldl Maps.addKey acc).length = acc.length + xs.length ↔ xs.Nodup ∧ ∀ x ∈ xs, x ∉ acc)
  | [], acc, _ => by simp
  | x :: r, acc, h => by
    have hx := h x (by simp)
    rw [List.foldl_cons, List.nodup_cons]
    by_cases e : x ∈ acc
    · rw [lit_yes hx e]
      obtain ⟨h1, _⟩ := fold_len r acc fun y hy => h y (by simp [hy])
      rw [List.length_cons]
      refine ⟨by omega, ⟨fun h2 => by omega, fun h2 => absurd e (h2.2 x (by simp))⟩⟩
    · rw [lit_no e]
      obtain ⟨h1, h2⟩ := fold_len r (acc ++ [x]) fun y hy => h y (by simp [hy])
      rw [List.length_append] at h1 h2
      rw [List.length_cons]
      have hl : ([x] : List Lit).length = 1 := rfl
      rw [hl] at h1 h2
      refine ⟨by omega, ?_⟩
      rw [show acc.length + (r.length + 1) = acc.length + 1 + r.length by omega, h2]
      constructor
      · rintro ⟨a, b⟩
        refine ⟨⟨fun hm => b x hm (by simp), a⟩, fun y hy => ?_⟩
        rcases List.mem_cons.1 hy with rfl | hy
        · exact e
        · exact fun hm => b y hy (by simp [hm])
      · rintro ⟨⟨a, b⟩, c⟩
        refine ⟨b, fun y hy hm => ?_⟩
        rcases List.mem_append.1 hm with hm | hm
        · exact c y (by simp [hy]) hm
        · rw [List.mem_singleton] at hm
          subst hm
          exact a hy
theorem setLen (u : DataW Unit) (xs : List Lit) (h : ∀ x ∈ xs, WideAt.IsKeyLit x) : Maps.size (Maps.setOf u xs) ≤ xs.length ∧ (Maps.size (Maps.setOf u xs) = xs.length ↔ xs.Nodup) := by
  rw [Maps.size_setOf u xs h]
  obtain ⟨h1, h2⟩ := fold_len xs [] h
  simp at h1 h2
  exact ⟨h1, h2⟩
theorem lit_nodup {α : Type} (f : α → Lit) (hf : ∀ a b, f a = f b → a = b) (l : List α) : (l.map f).Nodup ↔ l.Nodup := by
  unfold List.Nodup
  rw [List.pairwise_map]
  constructor
  · exact fun h => h.imp fun e e' => e (by rw [e'])
  · exact fun h => h.imp fun e e' => e (hf _ _ e')

set_option maxRecDepth 100000 in
set_option maxHeartbeats 2000000 in
theorem rising_c (A : Option Addr) (n c : Nat) (l : List Bb) (w : World) (h : BSl w w.heap.size A n l) (hn : n ≤ 1000000) :
    Calls Tryz.prog 74 #[.slice A n c] w fun e w' => e = .returned (.bool (decide (l.Pairwise risen))) ∧ Below w.heap.size w w' := by
  have HH := hid h
  have HLN : Hid (l.length = n) := hid h.1
  clear h
  go_enter Tryz.func74, Tryz.ntmps74
  go_wp2_with fail
  go_loopg [6] n (fun kk iv wr => ∃ (j : Nat), iv = .int .i64 (j : Int) ∧ Hid (kk = n - j) ∧ Hid (j ≤ n) ∧ Hid (∀ i, ∀ h2 : i + 1 < l.length, i + 1 < j → risen (l[i]'(by omega)) l[i + 1]) ∧ Hid (Below w.heap.size w wr))
  case atStart => exact ⟨0, rfl, hid (by omega), hid (Nat.zero_le _), hid (fun i _ h3 => absurd h3 (by omega)), hid (Below.refl _ _)⟩
  case round =>
  obtain ⟨j, rfl, hgk, hj, hR, hB⟩ := hrel
  rcases Nat.lt_or_ge j n with hlt | hge
  · have HLT := hid hlt
    have j1 : (0 : Int) ≤ (j : Int) := by omega
    have j2 : (j : Int) < (n : Int) := by omega
    have j3 : decide ((j : Int) < (n : Int)) = true := by simpa using hlt
    have j4 : decide (j < n) = true := by simpa using hlt
    have wj : wrap64 ((j : Int) + 1) = ((j + 1 : Nat) : Int) := by unfold wrap64; omega
    rcases j with _ | k
    · have hd : decide (((0 : Nat) : Int) > 0) = false := decide_eq_false (by omega)
      have hd2 : decide ((0 : Int) < ((0 : Nat) : Int)) = false := decide_eq_false (by omega)
      have hB2 := hid fun q => hB.out.trans (Joins.below_draws _ wr q)
      clear hlt hB j1 j2 j3 j4
      go_wp2_with (go_quiet (fail))
      go_roundg (n - (0 + 1))
      case measure => have := hgk.out; have := HLT.out; omega
      case rel => exact ⟨0 + 1, rfl, hid rfl, hid HLT.out, hid (fun i _ h3 => absurd h3 (by omega)), hid (hB2.out _)⟩
    · have hd : decide (((k + 1 : Nat) : Int) > 0) = true := decide_eq_true (by omega)
      have hd2 : decide ((0 : Int) < ((k + 1 : Nat) : Int)) = true := decide_eq_true (by omega)
      have hd3 : decide (0 < k + 1) = true := decide_eq_true (by omega)
      have hjl : k + 1 < l.length := by rw [HLN.out]; exact hlt
      obtain ⟨lb, off, rfl, hbl, hr1⟩ := HH.out.2 (k + 1) hjl
      obtain ⟨lb', off', e, _, hr0⟩ := HH.out.2 k (by omega)
      injection e with e
      injection e with e1 e2
      subst e1 e2
      obtain ⟨x, hx⟩ : ∃ x, l[k]'(by omega) = x := ⟨_, rfl⟩
      obtain ⟨y, hy⟩ : ∃ y, l[k + 1]'hjl = y := ⟨_, rfl⟩
      rw [hy] at hr1
      rw [hx] at hr0
      have c1 := (range11 (rangeAt_keep hr1 (hB.out.block lb hbl))).1
      have c0 := (range11 (rangeAt_keep hr0 (hB.out.block lb hbl))).1
      have HB2 := hid fun q => hB.out.trans (Joins.below_draws _ wr q)
      have HST : Hid (∀ i, ∀ h2 : i + 1 < l.length, i + 1 < k + 1 + 1 → risen x y → risen (l[i]'(by omega)) l[i + 1]) := hid (fun i h2 h3 hr => by
        by_cases e : i = k
        · subst e; rw [hx, hy]; exact hr
        · exact hR.out i h2 (by omega))
      have HNO : Hid (¬ risen x y → ¬ l.Pairwise risen) := hid (fun h1 h2 => h1 (by have := of_risen h2 k hjl; rwa [hx, hy] at this))
      clear hx hy
      clear hlt
      generalize hJ : k + 1 = J at *
      have k1 : wrap64 ((J : Int) - 1) = (k : Int) := by unfold wrap64; omega
      have k4 : IntKind.i64.wrap ((J : Int) - 1) = (k : Int) := by rw [IntWalk.i64_in _ (by omega)]; omega
      have HJ := hid hJ
      have k2 : (0 : Int) ≤ (k : Int) := by omega
      have k3 : (k : Int) < (n : Int) := by omega
      clear hJ hR hB hr1 hr0 hbl
      have s1 := str_list x.nm
      have s2 := str_list y.nm
      cases hyx : Op.bytesLess x.nm y.nm
      · have HF : Hid (decide (l.Pairwise risen) = false) := hid (decide_eq_false (HNO.out (by unfold risen; rw [hyx]; simp)))
        clear HST HNO
        by_cases he : y.nm = x.nm
        · have d1 : Op.bytesLess y.nm x.nm = false := by rw [he]; exact less_self _
          have d2 : (y.nm == x.nm) = true := by simpa using he
          rw [he] at c1 d1 d2 s2
          go_wp2_with (go_quiet (fail))
          go_ret
          exact ⟨congrArg (fun b => Ending.returned (.bool b)) HF.out.symm, HB2.out _⟩
        · have d1 : Op.bytesLess y.nm x.nm = true := less_tri hyx (fun e => he e.symm)
          have d2 : (y.nm == x.nm) = false := by simpa using he
          go_wp2_with (go_quiet (fail))
          go_ret
          exact ⟨congrArg (fun b => Ending.returned (.bool b)) HF.out.symm, HB2.out _⟩
      · have HS2 : Hid (∀ i, ∀ h2 : i + 1 < l.length, i + 1 < J + 1 → risen (l[i]'(by omega)) l[i + 1]) := hid (fun i h2 h3 => HST.out i h2 (by have := HJ.out; omega) hyx)
        have d1 : Op.bytesLess y.nm x.nm = false := less_turn hyx
        have d2 : (y.nm == x.nm) = false := by simpa using (less_ne hyx).symm
        clear HST HNO
        go_wp2_with (go_quiet (fail))
        go_roundg (n - (J + 1))
        case measure => have := hgk.out; have := HLT.out; have := HJ.out; omega
        case rel => exact ⟨J + 1, rfl, hid rfl, hid (by have := HLT.out; have := HJ.out; omega), HS2, hid (HB2.out _)⟩
  · have hjn : j = n := by have := hj.out; omega
    subst hjn
    have j2 : ¬ (j : Int) < (j : Int) := by omega
    have HF : Hid (decide (l.Pairwise risen) = true) := hid (decide_eq_true (risen_of fun i h2 => hR.out i h2 (by have := HLN.out; omega)))
    clear hge hj hgk hR
    go_wp2
    go_ret
    exact ⟨congrArg (fun b => Ending.returned (.bool b)) HF.out.symm, hB.out⟩
theorem Tryz.lawInt : Maps.Keyed Tryz.prog 3 := Maps.int_keyed Tryz.underlying3
theorem key_int {n : Int} (h : i64ok n) : keyOf Tryz.prog 3 (.int .i64 n) = some (.int .i64 n) := Maps.keyOf_int_mk Tryz.underlying3 (by unfold i64ok at h; simp [Lit.wf, IntKind.min, IntKind.max, IntKind.signed, IntKind.bits]; omega)
def blkLit (x : Bb) : Lit := .int .i64 x.b
def blkSet (l : List Bb) : DataW Unit := Maps.setOf (.agg []) (l.map blkLit)
theorem blkSet_snoc {l : List Bb} {j : Nat} (hj : j < l.length) : blkSet (l.take (j + 1)) = (blkSet (l.take j)).put (.int .i64 l[j].b) (.agg []) := by
  unfold blkSet
  rw [List.take_succ_eq_append_getElem hj, List.map_append]
  exact Maps.setOf_snoc _ _ _
theorem blkSet_len (l : List Bb) : Maps.size (blkSet l) ≤ l.length ∧ (Maps.size (blkSet l) = l.length ↔ (l.map Bb.b).Nodup) := by
  have h := setLen (.agg []) (l.map blkLit) (fun x hx => by obtain ⟨y, _, rfl⟩ := List.mem_map.1 hx; trivial)
  rw [List.length_map] at h
  refine ⟨h.1, h.2.trans ?_⟩
  have e : l.map blkLit = (l.map Bb.b).map (fun n => Lit.int .i64 n) := by rw [List.map_map]; rfl
  rw [e]
  exact lit_nodup _ (fun a b h => by injection h) _
set_option maxRecDepth 100000 in
set_option maxHeartbeats 2000000 in
theorem apart_c (A : Option Addr) (n c : Nat) (l : List Bb) (w : World) (h : BSl w w.heap.size A n l) (hn : n ≤ 1000000) (hb : ∀ x ∈ l, i64ok x.b) :
    Calls Tryz.prog 75 #[.slice A n c] w fun e w' => e = .returned (.bool (decide ((l.map Bb.b).Nodup))) ∧ Below w.heap.size w w' := by
  have HH := hid h
  have HN := hid hn
  have HLN : Hid (l.length = n) := hid h.1
  have HW := hid hb
  clear h hb
  have hmm := fun (m : Int) (w : World) => run_makeMapN Tryz.underlying201 m w
  go_enter Tryz.func75, Tryz.ntmps75
  go_wp2_with fail
  clear hmm
  have hM : (w.alloc (.map #[] 0)).ownsMap (H := Unit) Tryz.prog 3 unitElem w.heap.size 0 (blkSet (l.take 0)) := World.ownsMap_made (H := Unit) w Tryz.prog 3 unitElem
  have HM := hid hM
  have HB : Hid (Below w.heap.size w (w.alloc (.map #[] 0))) := hid ((Below.refl _ _).alloc (Nat.le_refl _) _)
  clear hM
  go_loopg [11] n (fun kk iv wr => ∃ (j : Nat), iv = .int .i64 (j : Int) ∧ Hid (kk = n - j) ∧ Hid (j ≤ n) ∧ Hid (wr.ownsMap (H := Unit) Tryz.prog 3 unitElem w.heap.size j (blkSet (l.take j))) ∧ Hid (Below w.heap.size w wr))
  case atStart => exact ⟨0, rfl, hid (by omega), hid (Nat.zero_le _), HM, HB⟩
  case round =>
  obtain ⟨j, rfl, hgk, hj, hM, hB⟩ := hrel
  clear HM HB
  rcases Nat.lt_or_ge j n with hlt | hge
  · have HLT := hid hlt
    have hjl : j < l.length := by rw [HLN.out]; exact hlt
    have j1 : (0 : Int) ≤ (j : Int) := by omega
    have j2 : (j : Int) < (n : Int) := by omega
    have j3 : decide ((j : Int) < (n : Int)) = true := by simpa using hlt
    have j4 : decide (j < n) = true := by simpa using hlt
    have wj : wrap64 ((j : Int) + 1) = ((j + 1 : Nat) : Int) := by unfold wrap64; omega
    obtain ⟨lb, off, rfl, hbl, hr0⟩ := HH.out.2 j hjl
    have hr1 := rangeAt_keep hr0 (hB.out.block lb hbl)
    have HSN := hid (blkSet_snoc hjl)
    have HXB := hid (HW.out l[j] (List.getElem_mem _))
    generalize l[j] = x at *
    obtain ⟨c0, c1, c2, c3, c4, c5, c6, c7, c8, c9, c10⟩ := range11 hr1
    have HM2 := hid (hM.out.alloc (.cells #[.string (str (x).nm), .int .i64 (x).k.t, .int .i64 (x).k.c, .int .i64 (x).k.e, .int .i64 (x).b, .int .i64 (x).p.k.t, .int .i64 (x).p.k.c, .int .i64 (x).p.k.e, .int .i64 (x).p.id, .int .i64 (x).p.ver, .int .i64 (x).sz] 90))
    have HB2 : Hid (Below w.heap.size w (wr.alloc (.cells #[.string (str (x).nm), .int .i64 (x).k.t, .int .i64 (x).k.c, .int .i64 (x).k.e, .int .i64 (x).b, .int .i64 (x).p.k.t, .int .i64 (x).p.k.c, .int .i64 (x).p.k.e, .int .i64 (x).p.id, .int .i64 (x).p.ver, .int .i64 (x).sz] 90))) := hid (hB.out.alloc hB.out.size _)
    have hk2 := Blk.new wr 90 #[.string (str (x).nm), .int .i64 (x).k.t, .int .i64 (x).k.c, .int .i64 (x).k.e, .int .i64 (x).b, .int .i64 (x).p.k.t, .int .i64 (x).p.k.c, .int .i64 (x).p.k.e, .int .i64 (x).p.id, .int .i64 (x).p.ver, .int .i64 (x).sz]
    have x4 := (bbB_cells (x := x) hk2).2.2.2.2.1
    clear hlt hjl hbl hr0 hr1 hM hB hk2
    go_wp2_with (at_mapUpdate; refine wpList_mapUpdate_own _ rfl _ _ _ 201 rfl 3 148 Tryz.lawInt Tryz.underlying201 unitElem w.heap.size j _ rfl HM2.out (by have := HN.out; have := HLT.out; unfold maxLen; omega) _ _ (.int .i64 x.b) rfl rfl (key_int HXB.out) (.agg []) [] unitElem_mk ?_)
    intro w2 hM3 hg3
    have HM3 : Hid (w2.ownsMap (H := Unit) Tryz.prog 3 unitElem w.heap.size (j + 1) (blkSet (l.take (j + 1)))) := hid (by rw [HSN.out]; exact hM3)
    have HB3 := hid (HB2.out.grown hg3 HB2.out.size (fun k hk => by injection hk with hk; omega))
    clear hM3 hg3
    go_wp2_with fail
    go_roundg (n - (j + 1))
    case measure => have := hgk.out; have := HLT.out; omega
    case rel => exact ⟨j + 1, rfl, hid rfl, hid HLT.out, HM3, HB3⟩
  · have hjn : j = n := by have := hj.out; omega
    subst hjn
    have j2 : ¬ (j : Int) < (j : Int) := by omega
    have hlen := World.ownsMap.len hM.out Tryz.underlying201
    rw [← HLN.out, List.take_length] at hlen
    have hq := (blkSet_len l).2
    rw [HLN.out] at hq
    generalize Maps.size (blkSet l) = m at *
    by_cases e : m = j
    · have HF : Hid (decide ((l.map Bb.b).Nodup) = true) := hid (decide_eq_true (hq.1 e))
      subst e
      clear hge hj hgk hM hq
      go_wp2
      go_ret
      exact ⟨congrArg (fun b => Ending.returned (.bool b)) (by rw [HF.out]), hB.out⟩
    · have HF : Hid (decide ((l.map Bb.b).Nodup) = false) := hid (decide_eq_false fun h => e (hq.2 h))
      have e1 : ((m : Int) == (j : Int)) = false := beq_eq_false_iff_ne.2 (by omega)
      have e2 : decide ((m : Int) = (j : Int)) = false := decide_eq_false (by omega)
      have e3 : (m == j) = false := beq_eq_false_iff_ne.2 e
      have e4 : decide (m = j) = false := decide_eq_false e
      clear hge hj hgk hM hq
      go_wp2
      go_ret
      exact ⟨congrArg (fun b => Ending.returned (.bool b)) (by rw [HF.out]), hB.out⟩
end Go.Proofs.YtdkbpjkoiegflaaGreat
