/- Rows of changes of a call's own; what strongroomlaw09.applied returns. Nothing is assumed. Operations that came in, and rows of changes; a store on a new device: for the walks of layer 9's laws. -/
import Derived.Test.YtdkbpjkoiegflaaGreatStCm
import Derived.Test.YtdkbpjkoiegflaaGreatApL
import Derived.Test.YtdkbpjkoiegflaaGreatFrameT
import Derived.Test.YtdkbpjkoiegflaaGreatStFirst
namespace Go.Proofs.YtdkbpjkoiegflaaGreat
open Go.RowKit

def hcs (l : List Hc) : List Value := l.flatMap Hc.cells
theorem hcs_app (a b : List Hc) : hcs (a ++ b) = hcs a ++ hcs b := by simp [hcs]
theorem hcs_len (l : List Hc) : (hcs l).length = l.length * 6 := by
  induction l with
  | nil => rfl
  | cons x r ih =>
    show (x.cells ++ hcs r).length = _
    rw [List.length_append, ih]
    simp [Hc.cells]
    omega
theorem hc_cell (x : Hc) : ∀ u ∈ x.cells, u.oneCell' = true := by
  intro u hu
  simp only [Hc.cells, List.mem_cons, List.not_mem_nil, or_false] at hu
  rcases hu with rfl | rfl | rfl | rfl | rfl | rfl <;> rfl
theorem hcs_cell (l : List Hc) : ∀ u ∈ hcs l, u.oneCell' = true := by
  intro u hu
  obtain ⟨x, _, hx⟩ := List.mem_flatMap.1 hu
  exact hc_cell x u hx
theorem hcs_at (l : List Hc) {j : Nat} (hj : j < l.length) : ∀ t u, l[j].cells[t]? = some u → (hcs l)[j * 6 + t]? = some u := by
  intro t u hu
  have hl : (hcs (l.take j)).length = j * 6 := by rw [hcs_len, List.length_take, Nat.min_eq_left (Nat.le_of_lt hj)]
  have ht := (List.getElem?_eq_some_iff.1 hu).1
  have e : hcs l = hcs (l.take j) ++ (l[j].cells ++ hcs (l.drop (j + 1))) := by
    conv => lhs; rw [show l = l.take j ++ (l[j] :: l.drop (j + 1)) by simp]
    rw [hcs_app]
    rfl
  rw [e, List.getElem?_append_right (by omega), List.getElem?_append_left (by rw [hl]; simp only [Nat.add_sub_cancel_left]; exact ht), hl, Nat.add_sub_cancel_left]
  exact hu
/-- A row of changes of a call's own. -/
def HRow (w : World) (base : Nat) (A : Option Addr) (n c : Nat) (l : List Hc) : Prop := w.ownsRow base 94 6 (.slice A n c) n (hcs l)
section
variable {w w' : World} {base n c : Nat} {A : Option Addr} {l : List Hc}
theorem HRow.elem (h : HRow w base A n c l) (hn : l.length = n) {j : Nat} (hj : j < l.length) : ∃ b, A = some ⟨b, 0, none⟩ ∧ b < w.heap.size ∧ w.rangeAt b (j * 6) l[j].cells := by
  obtain ⟨b, hA, hlt, hr⟩ := own_range h (by omega)
  exact ⟨b, hA, hlt, fun t u hu => by
    have := hr (j * 6 + t) u (hcs_at l hj t u hu)
    rwa [Nat.zero_add] at this⟩
theorem range_flat : ∀ (l : List Hc) (b off : Nat), (∀ j (h : j < l.length), w.rangeAt b (off + j * 6) l[j].cells) → w.rangeAt b off (hcs l)
  | [], b, off, _ => fun t u hu => by simp [hcs] at hu
  | x :: r, b, off, h => fun t u hu => by
    have h0 := h 0 (by simp)
    have e : hcs (x :: r) = x.cells ++ hcs r := rfl
    rw [e] at hu
    have h6 : x.cells.length = 6 := rfl
    rcases Nat.lt_or_ge t 6 with ht | ht
    · rw [List.getElem?_append_left (by omega)] at hu
      have := h0 t u hu
      simpa using this
    · rw [List.getElem?_append_right (by omega)] at hu
      have := range_flat r b (off + 6) (fun j hj => by
        have := h (j + 1) (by simpa using hj)
        rw [show off + (j + 1) * 6 = off + 6 + j * 6 by omega] at this
        exact this) (t - x.cells.length) u hu
      rw [h6, show off + 6 + (t - 6) = off + t by omega] at this
      exact this
theorem ChOn.range {U : Nat → Prop} (h : ChOn U w A n l) (hn : 0 < n) : ∃ b off, A = some ⟨b, off, none⟩ ∧ w.rangeAt b off (hcs l) := by
  obtain ⟨b, off, hA, _⟩ := h.el 0 (by have := h.len; omega)
  refine ⟨b, off, hA, range_flat l b off fun j hj => ?_⟩
  obtain ⟨b', off', hA', _, _, hr, _⟩ := h.el j hj
  have e := hA.symm.trans hA'
  injection e with e
  injection e with e1 e2
  subst e1 e2
  exact hr
end
theorem Tryz.infoCh : (Tryz.prog.info? 94).map (fun i => (i.zero, i.size, i.bytes)) = some (some (.agg #[.string ByteArray.empty, .int .i64 0, .int .i64 0, .int .i64 0, .slice none 0 0, .bool false]), 6, 72) := by kernel_rfl
/-- append(l, m...) of changes. -/
theorem wpList_appH (w : World) {ops : Array Oper} {rest : List Oper} {o : Oper} {a : Act} {Q : Exit → Act → World → Prop} (hgd : o.guard = none) (s x : Operand)
    (ho : o.op = .call { callee := .builtin .append, args := #[s, x], argTypes := #[50, 50] })
    (base : Nat) (A : Option Addr) (c : Nat) (l : List Hc) (n : Nat) (hs : a.eval s = .slice A n c) (hown : HRow w base A n c l)
    (A2 : Option Addr) (m c2 : Nat) (news : List Hc) (hm : news.length = m) (hx : a.eval x = .slice A2 m c2) (hr : 0 < m → ∃ b off, A2 = some ⟨b, off, none⟩ ∧ w.rangeAt b off (hcs news)) (hl : n + m ≤ 1000000) (hbase : base ≤ w.heap.size)
    (h : ∀ A' c' w', HRow w' base A' (n + m) c' (l ++ news) → Below base w w' → wpList Tryz.prog ops Q rest (a.put o.dst (.slice A' (n + m) c')) w') :
    wpList Tryz.prog ops Q (o :: rest) a w :=
  wpList_plain hgd fun K hK => by
    obtain ⟨A', c', w', hrun, hgr⟩ := run_append_L (P := Tryz.prog) w 50 o.type 94 _ 6 72 Tryz.underlying50 Tryz.infoCh rfl (by decide) base A n c (hcs l) hown A2 m c2 (hcs news) (by rw [hcs_len, hm]) hr (hcs_cell _) (by omega) (by unfold maxLen; omega) hbase
    refine wp_append_run 50 s x ho _ _ _ hs hx hrun (hK _ _ (h A' c' w' ?_ (grown_below hgr.2.2.1 hbase fun d hd => own_ge hown d hd)))
    have := hgr.1
    unfold HRow
    rwa [hcs_app]
theorem ap1_h (out : List Hc) (x : Hc) : ap1 (out.map Hc.ch) x.ch = (if x.dr then out.filter (fun y => decide (y.nm ≠ x.nm)) else out.filter (fun y => decide (y.nm ≠ x.nm)) ++ [x]).map Hc.ch := by
  unfold ap1
  have e : (out.map Hc.ch).filter (fun y => decide (y.nm ≠ x.ch.nm)) = (out.filter (fun y => decide (y.nm ≠ x.nm))).map Hc.ch := by
    rw [List.filter_map]
    rfl
  rw [e]
  cases h : x.dr with
  | true => rw [if_pos (show x.ch.drop = true from h), if_pos rfl]
  | false => rw [if_neg (show ¬ x.ch.drop = true by rw [show x.ch.drop = x.dr from rfl, h]; simp), if_neg (by simp), List.map_append]; rfl
section
variable {w : World} {U : Nat → Prop} {A B : Option Addr} {n ca m cb : Nat} {hv l : List Hc}
set_option maxRecDepth 100000 in
set_option maxHeartbeats 4000000 in
theorem applied_c (ha : ChOn U w A n hv) (hb : ChOn U w B m l) (hn : n ≤ 10000) (hm : m ≤ 10000) :
    Calls Tryz.prog 42 #[.slice A n ca, .slice B m cb] w fun e w' => ∃ A' n' c' out, e = .returned (.slice A' n' c') ∧ HRow w' w.heap.size A' n' c' out ∧ out.length = n' ∧ out.map Hc.ch = applied (hv.map Hc.ch) (l.map Hc.ch) ∧ n' ≤ n + m ∧ (∀ x ∈ out, x ∈ hv ∨ x ∈ l) ∧ Below w.heap.size w w' := by
  have HA := hid ha
  have HH := hid hb
  have HNN := hid hn
  have HN := hid hm
  have HLN : Hid (l.length = m) := hid hb.len
  have HVN : Hid (hv.length = n) := hid ha.len
  have HHV : Hid (∀ x ∈ hv, x ∈ hv ∨ x ∈ l) := hid (fun x hx => .inl hx)
  clear ha hb hn hm
  have hbs := fun (w0 : World) => run_buildSlice0 (P := Tryz.prog) w0 50 94 Tryz.underlying50 (by kernel_rfl)
  go_enter Tryz.func42, Tryz.ntmps42
  go_wp2_with (at_builtin; refine wpList_appH (w.alloc (.cells #[] 94)) rfl _ _ rfl w.heap.size (some ⟨w.heap.size, 0, none⟩) 0 [] 0 rfl (own_empty _ _ _ _ (Nat.le_refl _)) A n ca hv HVN.out rfl (fun h0 => (HA.out.bel ((Below.refl _ _).alloc (Nat.le_refl _) _)).range h0) (by have := HNN.out; omega) (by simp) ?_)
  intro A1 c1 w1 hr1 hb1
  try rw [Nat.zero_add]
  have HR1 : Hid (HRow w1 w.heap.size A1 n c1 hv) := hid hr1
  have HB1 : Hid (Below w.heap.size w w1) := hid (((Below.refl _ _).alloc (Nat.le_refl _) (.cells #[] 94)).trans hb1)
  clear hr1 hb1 hbs
  go_wp2_with fail
  go_loopg [5, 16] m (fun kk ov iv w2 => ∃ (j : Nat) (A1 : Option Addr) (n1 c1 : Nat) (out : List Hc), ov = .slice A1 n1 c1 ∧ iv = .int .i64 (j : Int) ∧ Hid (kk = m - j) ∧ Hid (j ≤ m) ∧ Hid (HRow w2 w.heap.size A1 n1 c1 out) ∧ Hid (out.length = n1) ∧ Hid (out.map Hc.ch = applied (hv.map Hc.ch) ((l.take j).map Hc.ch)) ∧ Hid (n1 ≤ n + j) ∧ Hid (∀ x ∈ out, x ∈ hv ∨ x ∈ l) ∧ Hid (Below w.heap.size w w2))
  case atStart => exact ⟨0, A1, n, c1, hv, rfl, rfl, hid (by omega), hid (Nat.zero_le _), HR1, HVN, hid rfl, hid (by omega), HHV, HB1⟩
  case round =>
  obtain ⟨j, A1, n1, c1, out, rfl, rfl, hgk, hj, hO, hol, hap, hn1, hok, hB⟩ := hrel
  clear HR1 HB1
  rename World => w2
  rcases Nat.lt_or_ge j m with hlt | hge
  · have HJN := hid hlt
    have hjl : j < l.length := by rw [HLN.out]; exact hlt
    have j1 : (0 : Int) ≤ (j : Int) := by omega
    have j2 : (j : Int) < (m : Int) := by omega
    have j3 : decide ((j : Int) < (m : Int)) = true := by simpa using hlt
    have j4 : decide (j < m) = true := by simpa using hlt
    have wj : wrap64 ((j : Int) + 1) = ((j + 1 : Nat) : Int) := by have := HN.out; unfold wrap64; omega
    obtain ⟨lb, off, rfl, -, hbl, hr0, hx0⟩ := (HH.out.bel hB.out).at_ hjl
    have HX := hid hx0
    have HXM := hid (List.getElem_mem hjl)
    have HTK := hid (List.take_succ_eq_append_getElem hjl)
    have HAP : Hid (applied (hv.map Hc.ch) ((l.take (j + 1)).map Hc.ch) = (if l[j].dr then out.filter (fun y => decide (y.nm ≠ l[j].nm)) else out.filter (fun y => decide (y.nm ≠ l[j].nm)) ++ [l[j]]).map Hc.ch) := hid (by
      rw [List.take_succ_eq_append_getElem hjl, List.map_append]
      show applied _ (_ ++ [l[j].ch]) = _
      rw [applied_snoc, ← hap.out, ap1_h])
    have HXK : Hid (l[j] ∈ hv ∨ l[j] ∈ l) := hid (.inr HXM.out)
    generalize l[j] = x at *
    obtain ⟨c0, c1', c2, c3, c4, c5⟩ := range6 hr0
    have hb2 : Below w2.heap.size w2 (w2.alloc (.cells #[.string (str (x).nm), .int .i64 (x).k.t, .int .i64 (x).k.c, .int .i64 (x).k.e, .slice (x).A (x).n (x).c, .bool (x).dr] 94)) := (Below.refl _ _).alloc (Nat.le_refl _) _
    have HK2 := hid (Blk.new w2 94 #[.string (str (x).nm), .int .i64 (x).k.t, .int .i64 (x).k.c, .int .i64 (x).k.e, .slice (x).A (x).n (x).c, .bool (x).dr])
    have HO2 : Hid (HRow (w2.alloc (.cells #[.string (str (x).nm), .int .i64 (x).k.t, .int .i64 (x).k.c, .int .i64 (x).k.e, .slice (x).A (x).n (x).c, .bool (x).dr] 94)) w.heap.size A1 n1 c1 out) := hid (World.ownsRow.below hO.out hb2)
    have HB2 := hid (hB.out.trans (hb2.mono hB.out.size))
    clear hlt hjl hbl hr0 hx0 hb2 hB hO
    go_wp2_with fail
    generalize w2.heap.size = bx at *
    generalize w2.alloc (.cells #[.string (str (x).nm), .int .i64 (x).k.t, .int .i64 (x).k.c, .int .i64 (x).k.e, .slice (x).A (x).n (x).c, .bool (x).dr] 94) = wb at *
    clear c0 c1' c2 c3 c4 c5 HTK HX hap
    go_loopg [8, 22] n1 (fun kk rv iv w3 => ∃ (i : Nat) (A2 : Option Addr) (n2 c2 : Nat) (rest : List Hc), rv = .slice A2 n2 c2 ∧ iv = .int .i64 (i : Int) ∧ Hid (kk = n1 - i) ∧ Hid (i ≤ n1) ∧ Hid (HRow w3 wb.heap.size A2 n2 c2 rest) ∧ Hid (rest.length = n2) ∧ Hid (rest = (out.take i).filter (fun y => decide (y.nm ≠ x.nm))) ∧ Hid (Below wb.heap.size wb w3))
    case atStart => exact ⟨0, none, 0, 0, [], rfl, rfl, hid (by omega), hid (Nat.zero_le _), hid (own_nilrow _ _ _ _), hid rfl, hid rfl, hid (Below.refl _ _)⟩
    case round =>
    obtain ⟨i, A2, n2, c2, rest, rfl, rfl, hgk2, hi, hR, hrl, hrq, hB3⟩ := hrel
    rename World => w3
    have HK3 := hid (HK2.out.keep (hB3.out.block _ HK2.out.lt))
    have HR3 := hid (show rest.length ≤ n1 by rw [hrq.out]; exact Nat.le_trans (List.length_filter_le _ _) (Nat.le_trans (List.length_take_le _ _) hi.out))
    rcases Nat.lt_or_ge i n1 with hlt2 | hge2
    · have HIN := hid hlt2
      have hil : i < out.length := by rw [hol.out]; exact hlt2
      have i1 : (0 : Int) ≤ (i : Int) := by omega
      have i2 : (i : Int) < (n1 : Int) := by omega
      have i3 : decide ((i : Int) < (n1 : Int)) = true := by simpa using hlt2
      have i4 : decide (i < n1) = true := by simpa using hlt2
      have wi : wrap64 ((i : Int) + 1) = ((i + 1 : Nat) : Int) := by have := hn1.out; have := HN.out; have := HNN.out; have := HJN.out; unfold wrap64; omega
      have HTI : Hid ((out.take (i + 1)).filter (fun y => decide (y.nm ≠ x.nm)) = (out.take i).filter (fun y => decide (y.nm ≠ x.nm)) ++ (if out[i].nm = x.nm then [] else [out[i]])) := hid (by
        rw [List.take_succ_eq_append_getElem hil, List.filter_append]
        congr 1
        by_cases e : out[i].nm = x.nm <;> simp [e])
      obtain ⟨b2, rfl, hbl2, hr2⟩ := HRow.elem (World.ownsRow.below HO2.out hB3.out) hol.out hil
      generalize out[i] = y at *
      obtain ⟨c0, c1', c2', c3, c4, c5⟩ := range6 hr2
      have hky := Blk.new w3 94 #[.string (str (y).nm), .int .i64 (y).k.t, .int .i64 (y).k.c, .int .i64 (y).k.e, .slice (y).A (y).n (y).c, .bool (y).dr]
      have hb4 : Below w3.heap.size w3 (w3.alloc (.cells #[.string (str (y).nm), .int .i64 (y).k.t, .int .i64 (y).k.c, .int .i64 (y).k.e, .slice (y).A (y).n (y).c, .bool (y).dr] 94)) := (Below.refl _ _).alloc (Nat.le_refl _) _
      have HB4 := hid (hB3.out.trans (hb4.mono hB3.out.size))
      obtain ⟨y0, y1, y2, y3, y4, y5⟩ := hcB_cells (x := y) hky
      have x0 := (hcB_cells (x := x) (HK3.out.keep (hb4.block _ HK3.out.lt))).1
      have HR4 : Hid (HRow (w3.alloc (.cells #[.string (str (y).nm), .int .i64 (y).k.t, .int .i64 (y).k.c, .int .i64 (y).k.e, .slice (y).A (y).n (y).c, .bool (y).dr] 94)) wb.heap.size A2 n2 c2 rest) := hid (World.ownsRow.below hR.out hb4)
      clear hlt2 hil hbl2 hr2 hky hb4 hR hB3
      by_cases e : y.nm = x.nm
      · have HQ : Hid (rest = (out.take (i + 1)).filter (fun y => decide (y.nm ≠ x.nm))) := hid (by rw [HTI.out, if_pos e, List.append_nil]; exact hrq.out)
        have z1 : ((str y.nm).toList == (str x.nm).toList) = true := by rw [e]; simp
        have z2 : decide ((str y.nm).toList = (str x.nm).toList) = true := by rw [e]; simp
        have z3 : decide (str y.nm = str x.nm) = true := by rw [e]; simp
        clear e HTI hrq
        go_wp2_with fail
        go_roundg (n1 - (i + 1))
        case measure => have := hgk2.out; have := HIN.out; omega
        case rel => exact ⟨i + 1, A2, n2, c2, rest, rfl, by first | rfl | rw [wi], hid rfl, hid HIN.out, HR4, hrl, HQ, HB4⟩
      · have HQ : Hid (rest ++ [y] = (out.take (i + 1)).filter (fun y => decide (y.nm ≠ x.nm))) := hid (by rw [HTI.out, if_neg e, hrq.out])
        have e2 : ¬ str y.nm = str x.nm := fun h => e (str_inj.1 h)
        have z1 : ((str y.nm).toList == (str x.nm).toList) = false := by rw [str_list, str_list]; simpa using fun h => e2 (str_inj.2 h)
        have z2 : decide ((str y.nm).toList = (str x.nm).toList) = false := by rw [str_list, str_list]; exact decide_eq_false fun h => e2 (str_inj.2 h)
        have z3 : decide (str y.nm = str x.nm) = false := decide_eq_false e2
        clear e e2 HTI hrq
        have hb5 : Below (w3.alloc (.cells #[.string (str (y).nm), .int .i64 (y).k.t, .int .i64 (y).k.c, .int .i64 (y).k.e, .slice (y).A (y).n (y).c, .bool (y).dr] 94)).heap.size (w3.alloc (.cells #[.string (str (y).nm), .int .i64 (y).k.t, .int .i64 (y).k.c, .int .i64 (y).k.e, .slice (y).A (y).n (y).c, .bool (y).dr] 94)) ((w3.alloc (.cells #[.string (str (y).nm), .int .i64 (y).k.t, .int .i64 (y).k.c, .int .i64 (y).k.e, .slice (y).A (y).n (y).c, .bool (y).dr] 94)).alloc (.cells #[.string (str (y).nm), .int .i64 (y).k.t, .int .i64 (y).k.c, .int .i64 (y).k.e, .slice (y).A (y).n (y).c, .bool (y).dr] 94)) := (Below.refl _ _).alloc (Nat.le_refl _) _
        have HB5 := hid (HB4.out.trans (hb5.mono HB4.out.size))
        have HR5 : Hid (HRow ((w3.alloc (.cells #[.string (str (y).nm), .int .i64 (y).k.t, .int .i64 (y).k.c, .int .i64 (y).k.e, .slice (y).A (y).n (y).c, .bool (y).dr] 94)).alloc (.cells #[.string (str (y).nm), .int .i64 (y).k.t, .int .i64 (y).k.c, .int .i64 (y).k.e, .slice (y).A (y).n (y).c, .bool (y).dr] 94)) wb.heap.size A2 n2 c2 rest) := hid (World.ownsRow.below HR4.out hb5)
        have HKN : Hid (∃ b off, (some ⟨w3.heap.size + 1, 0, none⟩ : Option Addr) = some ⟨b, off, none⟩ ∧ ((w3.alloc (.cells #[.string (str (y).nm), .int .i64 (y).k.t, .int .i64 (y).k.c, .int .i64 (y).k.e, .slice (y).A (y).n (y).c, .bool (y).dr] 94)).alloc (.cells #[.string (str (y).nm), .int .i64 (y).k.t, .int .i64 (y).k.c, .int .i64 (y).k.e, .slice (y).A (y).n (y).c, .bool (y).dr] 94)).rangeAt b off (hcs [y])) := hid (by
          have h1 := Blk.new (w3.alloc (.cells #[.string (str (y).nm), .int .i64 (y).k.t, .int .i64 (y).k.c, .int .i64 (y).k.e, .slice (y).A (y).n (y).c, .bool (y).dr] 94)) 94 #[.string (str (y).nm), .int .i64 (y).k.t, .int .i64 (y).k.c, .int .i64 (y).k.e, .slice (y).A (y).n (y).c, .bool (y).dr]
          have h2 : (w3.alloc (.cells #[.string (str (y).nm), .int .i64 (y).k.t, .int .i64 (y).k.c, .int .i64 (y).k.e, .slice (y).A (y).n (y).c, .bool (y).dr] 94)).heap.size = w3.heap.size + 1 := by simp
          rw [h2] at h1
          exact ⟨_, 0, rfl, blkB_range (l := y.cells) h1⟩)
        clear hb5
        go_wp2_with (at_builtin; refine wpList_appH _ rfl _ _ rfl wb.heap.size A2 c2 rest n2 rfl HR5.out (some ⟨w3.heap.size + 1, 0, none⟩) 1 1 [y] rfl rfl (fun _ => HKN.out) (by have := HR3.out; have := hrl.out; have := hn1.out; have := HN.out; have := HNN.out; have := HJN.out; omega) HB5.out.size ?_)
        intro A6 c6 w6 hr6 hb6
        have HR6 := hid hr6
        have HB6 := hid (HB5.out.trans hb6)
        clear hr6 hb6 HR5 HB5 HKN HR4 HB4 y0 y1 y2 y3 y4 y5 x0 c0 c1' c2' c3 c4 c5 z1 z2 z3
        go_wp2_with fail
        go_roundg (n1 - (i + 1))
        case measure => have := hgk2.out; have := HIN.out; omega
        case rel => exact ⟨i + 1, A6, n2 + 1, c6, rest ++ [y], rfl, by first | rfl | rw [wi], hid rfl, hid HIN.out, HR6, hid (by rw [List.length_append, hrl.out]; rfl), HQ, HB6⟩
    · have hin : n1 = i := by have := hi.out; omega
      have HRQ : Hid (rest = out.filter (fun y => decide (y.nm ≠ x.nm))) := hid (by
        have h1 := hrq.out
        rw [← hin, ← hol.out, List.take_length] at h1
        exact h1)
      obtain rfl : n1 = i := hin
      have i2 : ¬ (n1 : Int) < (n1 : Int) := by omega
      have x5 := (hcB_cells (x := x) HK3.out).2.2.2.2.2
      have HB3 := hid (HB2.out.trans (hB3.out.mono HB2.out.size))
      have HRR : Hid (HRow w3 w.heap.size A2 n2 c2 rest) := hid (ownsRow_base_a hR.out HB2.out.size)
      have HSUB : Hid (∀ z ∈ rest, z ∈ hv ∨ z ∈ l) := hid (fun z hz => hok.out z (by rw [HRQ.out] at hz; exact (List.mem_filter.1 hz).1))
      clear hge2 hi hgk2 hrq hR hB3
      cases hdr : x.dr with
      | true =>
        rw [hdr] at x5
        have HAE : Hid (rest.map Hc.ch = applied (hv.map Hc.ch) ((l.take (j + 1)).map Hc.ch)) := hid (by rw [HAP.out, hdr, if_pos rfl, HRQ.out])
        clear hdr
        go_wp2_with fail
        go_roundg (m - (j + 1))
        case measure => have := hgk.out; have := HJN.out; omega
        case rel => exact ⟨j + 1, A2, n2, c2, rest, rfl, by first | rfl | rw [wj], hid rfl, hid HJN.out, HRR, hrl, HAE, hid (by have := HR3.out; have := hrl.out; have := hn1.out; omega), HSUB, HB3⟩
      | false =>
        have HAE : Hid ((rest ++ [x]).map Hc.ch = applied (hv.map Hc.ch) ((l.take (j + 1)).map Hc.ch)) := hid (by rw [HAP.out, hdr, if_neg (by simp), HRQ.out])
        have HDE : Hid (x.dr = false) := hid hdr
        obtain ⟨x0, x1, x2, x3, x4, -⟩ := hcB_cells (x := x) HK3.out
        rw [hdr] at x5
        clear hdr
        have hb5 : Below w3.heap.size w3 (w3.alloc (.cells #[.string (str (x).nm), .int .i64 (x).k.t, .int .i64 (x).k.c, .int .i64 (x).k.e, .slice (x).A (x).n (x).c, .bool (x).dr] 94)) := (Below.refl _ _).alloc (Nat.le_refl _) _
        have HB5 := hid (HB3.out.trans (hb5.mono HB3.out.size))
        have hr5 : HRow (w3.alloc (.cells #[.string (str (x).nm), .int .i64 (x).k.t, .int .i64 (x).k.c, .int .i64 (x).k.e, .slice (x).A (x).n (x).c, .bool (x).dr] 94)) w.heap.size A2 n2 c2 rest := World.ownsRow.below HRR.out hb5
        have hkn : ∃ b off, (some ⟨w3.heap.size, 0, none⟩ : Option Addr) = some ⟨b, off, none⟩ ∧ (w3.alloc (.cells #[.string (str (x).nm), .int .i64 (x).k.t, .int .i64 (x).k.c, .int .i64 (x).k.e, .slice (x).A (x).n (x).c, .bool (x).dr] 94)).rangeAt b off (hcs [x]) := ⟨_, 0, rfl, blkB_range (l := x.cells) (Blk.new w3 94 #[.string (str (x).nm), .int .i64 (x).k.t, .int .i64 (x).k.c, .int .i64 (x).k.e, .slice (x).A (x).n (x).c, .bool (x).dr])⟩
        rw [HDE.out] at hr5 hkn
        have hbb := HB5.out
        rw [HDE.out] at hbb
        have HR5 := hid hr5
        have HKN := hid hkn
        have HB6 := hid hbb
        clear hb5 hr5 hkn hbb
        go_wp2_with (at_builtin; refine wpList_appH _ rfl _ _ rfl w.heap.size A2 c2 rest n2 rfl HR5.out (some ⟨w3.heap.size, 0, none⟩) 1 1 [x] rfl rfl (fun _ => HKN.out) (by have := HR3.out; have := hrl.out; have := hn1.out; have := HN.out; have := HNN.out; have := HJN.out; omega) HB6.out.size ?_)
        intro A7 c7 w7 hr7 hb7
        have HR7 := hid hr7
        have HB7 := hid (HB6.out.trans hb7)
        clear hr7 hb7 HR5 HB5 HKN HB6 x0 x1 x2 x3 x4 x5
        go_wp2_with fail
        go_roundg (m - (j + 1))
        case measure => have := hgk.out; have := HJN.out; omega
        case rel => exact ⟨j + 1, A7, n2 + 1, c7, rest ++ [x], rfl, by first | rfl | rw [wj], hid rfl, hid HJN.out, HR7, hid (by rw [List.length_append, hrl.out]; rfl), HAE, hid (by have := HR3.out; have := hrl.out; have := hn1.out; omega), hid (fun z hz => by
          rw [List.mem_append, List.mem_singleton] at hz
          rcases hz with hz | hz
          · exact HSUB.out z hz
          · rw [hz]; exact HXK.out), HB7⟩
  · have hjn : m = j := by have := hj.out; omega
    have HAF : Hid (out.map Hc.ch = applied (hv.map Hc.ch) (l.map Hc.ch)) := hid (by
      have h1 := hap.out
      rw [← hjn, ← HLN.out, List.take_length] at h1
      exact h1)
    obtain rfl : m = j := hjn
    have j2 : ¬ (m : Int) < (m : Int) := by omega
    clear hge hj hgk hap
    go_wp2
    go_ret
    exact ⟨A1, n1, c1, rfl, out, hO.out, hol.out, HAF.out, hn1.out, hok.out, hB.out⟩
end
theorem HRow.chOn {U : Nat → Prop} {w : World} {base n c : Nat} {A : Option Addr} {l : List Hc} (h : HRow w base A n c l) (hn : l.length = n) (hU : ∀ b, A.map (·.block) = some b → U b) (hx : ∀ x ∈ l, HcOk U w x) : ChOn U w A n l :=
  ⟨hn, fun j hj => by
    obtain ⟨b, hA, hlt, hr⟩ := h.elem hn hj
    exact ⟨b, 0, hA, hU b (by rw [hA]; rfl), hlt, by rw [Nat.zero_add]; exact hr, hx _ (List.getElem_mem hj)⟩⟩
theorem HcOk.wide {U U' : Nat → Prop} {w : World} {x : Hc} (h : HcOk U w x) (hU : ∀ b, U b → U' b) : HcOk U' w x := ⟨h.b, fun a q hq => hU q (h.u a q hq), h.k, h.nm, h.n⟩
theorem hrow_keep {w w' : World} {base n c : Nat} {A : Option Addr} {l : List Hc} (h : HRow w base A n c l) (hk : Stay (fun b => A.map (·.block) = some b) w w') : HRow w' base A n c l := own_keep h fun b hb => hk.2 b hb
end Go.Proofs.YtdkbpjkoiegflaaGreat
/- Operations that came in, and rows of changes; a store on a new device: for the walks of layer 9's laws. -/
namespace Go.Proofs.YtdkbpjkoiegflaaGreat
open Go.RowKit

theorem range9 {w : World} {b i : Nat} {o : OpT} (h : w.rangeAt b i o.cells) : w.cell? ⟨b, i, none⟩ = some (.int .i64 o.kind) ∧ w.cell? ⟨b, i + 1, none⟩ = some (.int .i64 o.i) ∧ w.cell? ⟨b, i + 2, none⟩ = some (.int .i64 o.fr) ∧ w.cell? ⟨b, i + 3, none⟩ = some (.slice o.LA o.Ln o.Lc) ∧ w.cell? ⟨b, i + 4, none⟩ = some (.slice o.BA o.Bn o.Bc) ∧ w.cell? ⟨b, i + 5, none⟩ = some (.slice o.KA o.Kn o.Kc) ∧ w.cell? ⟨b, i + 6, none⟩ = some (.int .i64 o.k.t) ∧ w.cell? ⟨b, i + 7, none⟩ = some (.int .i64 o.k.c) ∧ w.cell? ⟨b, i + 8, none⟩ = some (.int .i64 o.k.e) :=
  ⟨h 0 _ rfl, h 1 _ rfl, h 2 _ rfl, h 3 _ rfl, h 4 _ rfl, h 5 _ rfl, h 6 _ rfl, h 7 _ rfl, h 8 _ rfl⟩
theorem opB_cells {w : World} {b : Nat} {t : TypeId} {o : OpT} (h : Blk w b t #[.int .i64 (o).kind, .int .i64 (o).i, .int .i64 (o).fr, .slice (o).LA (o).Ln (o).Lc, .slice (o).BA (o).Bn (o).Bc, .slice (o).KA (o).Kn (o).Kc, .int .i64 (o).k.t, .int .i64 (o).k.c, .int .i64 (o).k.e]) : w.cell? ⟨b, 0, none⟩ = some (.int .i64 o.kind) ∧ w.cell? ⟨b, 1, none⟩ = some (.int .i64 o.i) ∧ w.cell? ⟨b, 2, none⟩ = some (.int .i64 o.fr) ∧ w.cell? ⟨b, 3, none⟩ = some (.slice o.LA o.Ln o.Lc) ∧ w.cell? ⟨b, 4, none⟩ = some (.slice o.BA o.Bn o.Bc) ∧ w.cell? ⟨b, 5, none⟩ = some (.slice o.KA o.Kn o.Kc) ∧ w.cell? ⟨b, 6, none⟩ = some (.int .i64 o.k.t) ∧ w.cell? ⟨b, 7, none⟩ = some (.int .i64 o.k.c) ∧ w.cell? ⟨b, 8, none⟩ = some (.int .i64 o.k.e) :=
  ⟨(h.cell 0).trans rfl, (h.cell 1).trans rfl, (h.cell 2).trans rfl, (h.cell 3).trans rfl, (h.cell 4).trans rfl, (h.cell 5).trans rfl, (h.cell 6).trans rfl, (h.cell 7).trans rfl, (h.cell 8).trans rfl⟩
theorem so_new {n : Nat} (h : 2 ≤ n) : soE (St.new n) Va.new ⟨0, 0⟩ = 0 ∧ soL (St.new n) Va.new ⟨0, 0⟩ = [] := by
  have e1 : gtE (St.new n) Va.new ⟨0, 0⟩ = 90 := if_pos rfl
  have hn : ¬ (St.new n).n < 2 := by show ¬ n < 2; omega
  unfold soE soL
  rw [if_neg hn, if_pos e1, if_pos e1]
  exact ⟨rfl, rfl⟩
end Go.Proofs.YtdkbpjkoiegflaaGreat
