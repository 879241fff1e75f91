/- What store.Parse returns. Nothing is assumed. -/
import Derived.Test.YtdkbpjkoiegflaaGreatStPc
import Derived.Test.YtdkbpjkoiegflaaGreatStBy
namespace Go.Proofs.YtdkbpjkoiegflaaGreat
open Go.RowKit

theorem rdBls_add : ∀ (a b : Nat) (l : List UInt8), rdBls (a + b) l = (rdBls a l).bind fun p => (rdBls b p.2).map fun q => (p.1 ++ q.1, q.2)
  | 0, b, l => by
    rw [Nat.zero_add]
    show _ = (rdBls b l).map fun q => ([] ++ q.1, q.2)
    cases rdBls b l <;> rfl
  | a + 1, b, l => by
    rw [show a + 1 + b = (a + b) + 1 by omega, rdBls, rdBls]
    cases h : rdBl l with
    | none => rfl
    | some p =>
      obtain ⟨x, r⟩ := p
      dsimp only
      rw [rdBls_add a b r]
      cases h2 : rdBls a r with
      | none => rfl
      | some q =>
        obtain ⟨xs, r2⟩ := q
        dsimp only [Option.bind_some]
        cases h3 : rdBls b r2 <;> rfl
theorem rdBls_snoc {a : Nat} {l r r' : List UInt8} {xs : List Bb} {x : Bb} (h : rdBls a l = some (xs, r)) (h2 : rdBl r = some (x, r')) : rdBls (a + 1) l = some (xs ++ [x], r') := by
  rw [rdBls_add, h]
  show (rdBls 1 r).map _ = _
  rw [rdBls, h2]
  rfl
theorem par_stop {b : List UInt8} {j : Nat} {xs : List Bb} {r : List UInt8} (hj : j < (rd b).1) (hx : rdBls j (b.drop (rd b).2) = some (xs, r)) (hn : ∀ y r', rdBl r = some (y, r') → ¬ bbOk y) : parB b = none := by
  unfold parB
  split
  · rfl
  obtain ⟨m, hm⟩ : ∃ m, (rd b).1 = j + (m + 1) := ⟨(rd b).1 - j - 1, by omega⟩
  rw [hm, rdBls_add, hx]
  dsimp only [Option.bind_some]
  rw [rdBls]
  cases hr : rdBl r with
  | none => rfl
  | some p =>
    obtain ⟨y, r'⟩ := p
    dsimp only
    cases h2 : rdBls m r' with
    | none => rfl
    | some q =>
      obtain ⟨ys, r''⟩ := q
      dsimp only [Option.map_some]
      rw [if_neg]
      rintro ⟨_, h3, _⟩
      exact hn y r' hr (h3 y (by simp))
theorem apart_iff (xs : List Bb) : xs.Pairwise apart ↔ xs.Pairwise risen ∧ (xs.map Bb.b).Nodup := by
  unfold List.Nodup
  rw [List.pairwise_map]
  constructor
  · exact fun h => ⟨h.imp fun e => e.2, h.imp fun e => e.1⟩
  · rintro ⟨h1, h2⟩
    exact (List.pairwise_and_iff.2 ⟨h2, h1⟩)
theorem par_end {b : List UInt8} {xs : List Bb} {r : List UInt8} (hz : (rd b).2 ≠ 0) (hk : (rd b).1 ≤ 1000) (hx : rdBls (rd b).1 (b.drop (rd b).2) = some (xs, r)) (hok : ∀ x ∈ xs, bbOk x) :
    parB b = if r = [] ∧ xs.Pairwise risen ∧ (xs.map Bb.b).Nodup then some xs else none := by
  have hl := (rdBls_back _ _ _ _ hx).2.1
  unfold parB
  rw [if_neg (by omega), hx]
  dsimp only
  have e : Rgt xs ↔ xs.Pairwise risen ∧ (xs.map Bb.b).Nodup := by
    unfold Rgt
    rw [apart_iff]
    exact ⟨fun h => h.2.1, fun h => ⟨hok, h, by omega⟩⟩
  by_cases h : r = [] ∧ Rgt xs
  · rw [if_pos h, if_pos ⟨h.1, e.1 h.2⟩]
  · rw [if_neg h, if_neg fun h2 => h ⟨h2.1, e.2 h2.2⟩]
theorem par_head {b : List UInt8} (h : (rd b).2 = 0 ∨ 1000 < (rd b).1) : parB b = none := by unfold parB; rw [if_pos h]
/-- What Parse answers. -/
def PRes (w : World) (b : List UInt8) (e : Ending) (w' : World) : Prop :=
  ∃ A n c, e = .returned (.tuple #[.slice A n c, .bool (parB b).isSome]) ∧ n = ((parB b).getD []).length ∧ BRow 90 w' w.heap.size A c ((parB b).getD []) ∧ Below w.heap.size w w'
theorem PRes.no {w w' : World} {b : List UInt8} (h : parB b = none) (hb : Below w.heap.size w w') : PRes w b (.returned (.tuple #[.slice none 0 0, .bool false])) w' :=
  ⟨none, 0, 0, by rw [h]; rfl, by rw [h]; rfl, by rw [h]; exact BRow.nil _ _ _, hb⟩
set_option maxRecDepth 100000 in
set_option maxHeartbeats 4000000 in
theorem parse_c (A : Option Addr) (n c : Nat) (b : List UInt8) (w : World) (hr : Bts w 0 w.heap.size A n b) (hn : n ≤ 1000000000) :
    Calls Tryz.prog 37 #[.slice A n c] w (PRes w b) := by
  have hop := open_c A n c b w hr hn
  clear hr hn
  go_enter Tryz.func37, Tryz.ntmps37
  go_wp2_with fail
  refine hop.mono ?_
  rintro e w1 ⟨g, rfl, hd1, hs1, hb1⟩
  have HD1 := hid hd1
  have HS1 := hid hs1
  have HB1 := hid hb1
  clear hop hd1 hs1 hb1
  rcases Nat.eq_zero_or_pos (rd b).2 with hz | hz
  · have hc := rnat_none w1 w.heap.size g b HD1.out hz
    have HN := hid (par_head (.inl hz))
    clear hz
    go_wp2_with fail
    refine hc.mono ?_
    rintro e w2 ⟨rfl, -, hg⟩
    have HB2 := hid (HB1.out.grown hg HB1.out.size (fun k hk => by injection hk with hk; have := HD1.out; obtain ⟨_, _, _, _, _, h3, _⟩ := this; omega))
    clear hc hg
    go_wp2
    go_ret2
    exact PRes.no HN.out HB2.out
  have hc := rnat_some w1 w.heap.size g b HD1.out hz
  have HZ : Hid ((rd b).2 ≠ 0) := hid (by omega)
  have HX0 : Hid (rdBls 0 (b.drop (rd b).2) = some ([], b.drop (rd b).2)) := hid rfl
  have HLT := hid (rd_lt b)
  have HGW : Hid (w.heap.size ≤ g) := hid (by obtain ⟨_, _, _, _, _, h3, _⟩ := HD1.out; exact h3)
  obtain ⟨m, hm⟩ : ∃ m, (rd b).1 = m := ⟨_, rfl⟩
  rw [hm] at hc HLT
  have HM := hid hm
  clear hz hm
  go_wp2_with fail
  refine hc.mono ?_
  rintro e w2 ⟨rfl, hd2, hg2⟩
  have HD2 := hid hd2
  have HB2 := hid (HB1.out.grown hg2 HB1.out.size (fun k hk => by injection hk with hk; have := HGW.out; omega))
  have HS2 : Hid (g + 1 ≤ w2.heap.size) := hid (by have := HS1.out; have := hg2.size; omega)
  clear hc hd2 hg2 HD1 HB1 HS1
  rcases Nat.lt_or_ge 1000 m with hk | hk
  · have HN := hid (par_head (b := b) (.inr (by have := HM.out; omega)))
    have m1 : decide ((m : Int) > 1000) = true := decide_eq_true (by omega)
    have m2 : decide ((1000 : Int) < (m : Int)) = true := decide_eq_true (by omega)
    have m3 : decide (1000 < m) = true := decide_eq_true hk
    clear hk
    go_wp2
    go_ret2
    exact PRes.no HN.out HB2.out
  have HK := hid hk
  have m1 : decide ((m : Int) > 1000) = false := decide_eq_false (by omega)
  have m2 : decide ((1000 : Int) < (m : Int)) = false := decide_eq_false (by omega)
  have m3 : decide (1000 < m) = false := decide_eq_false (by omega)
  obtain ⟨i0, hi, hz0, hz1, hz2⟩ := info_parts Tryz.infoBlob
  have hmb : i0.bytes * m ≤ 281474976710656 := by rw [hz2]; omega
  have hml : m ≤ maxLen := by unfold maxLen; omega
  have hg1 : g + 1 ≤ w2.heap.size := HS2.out
  clear hk
  go_wp2_with (at_make; refine wpList_make_own _ rfl _ _ 71 rfl (g + 1) 90 i0 (.agg #[.string (str (bb0).nm), .int .i64 (bb0).k.t, .int .i64 (bb0).k.c, .int .i64 (bb0).k.e, .int .i64 (bb0).b, .int .i64 (bb0).p.k.t, .int .i64 (bb0).p.k.c, .int .i64 (bb0).p.k.e, .int .i64 (bb0).p.id, .int .i64 (bb0).p.ver, .int .i64 (bb0).sz]) 11 Tryz.underlying71 hi hz0 hz1 .i64 .u64 (m : Int) m rfl rfl rfl hmb hml hg1 ?_)
  intro w3 ho3 hg3
  have HO3 : Hid (w3.ownsRow (g + 1) 90 11 (.slice (some ⟨w2.heap.size, 0, none⟩) 0 m) 0 (bcs [])) := hid ho3
  have HB3 := hid (HB2.out.grown hg3 HB2.out.size (fun k hk => by cases hk))
  have HD3 := hid (HD2.out.keep (w' := w3) fun k _ hk => hg3.block k (by have := HS2.out; omega) (by simp))
  have HS3 : Hid (g + 1 ≤ w3.heap.size) := hid (by have := HS2.out; have := hg3.size; omega)
  clear ho3 hg3 HB2 HD2 HS2 hi hz0 hz1 hz2 hmb hml hg1 m1 m2 m3
  go_wp2_with fail
  go_loopg [7, 26] m (fun kk lv iv wr => ∃ (j : Nat) (A3 : Option Addr) (d3 : Nat) (xs : List Bb) (r : List UInt8), lv = .slice A3 j d3 ∧ iv = .int .u64 (j : Int) ∧ Hid (kk = m - j) ∧ Hid (j ≤ m) ∧ Hid (xs.length = j) ∧ Hid (rdBls j (b.drop (rd b).2) = some (xs, r)) ∧ Hid (∀ x ∈ xs, bbOk x) ∧ Hid (wr.ownsRow (g + 1) 90 11 (.slice A3 j d3) j (bcs xs)) ∧ Hid (Rd wr w.heap.size g r) ∧ Hid (Below w.heap.size w wr) ∧ Hid (g + 1 ≤ wr.heap.size))
  case atStart => exact ⟨0, _, m, [], b.drop (rd b).2, rfl, rfl, hid (by omega), hid (Nat.zero_le _), hid rfl, HX0, hid (fun x hx => by cases hx), HO3, HD3, HB3, HS3⟩
  case round =>
  obtain ⟨j, A3, d3, xs, r, rfl, rfl, hgk, hj, hlx, hX, hOk, hO, hD, hB, hS⟩ := hrel
  clear HX0 HO3 HD3 HB3 HS3
  rcases Nat.lt_or_ge j m with hlt | hge
  · have HJM := hid hlt
    have j1 : (0 : Int) ≤ (j : Int) := by omega
    have j2 : (j : Int) < (m : Int) := by omega
    have j3 : decide ((j : Int) < (m : Int)) = true := by simpa using hlt
    have j4 : decide (j < m) = true := by simpa using hlt
    have wj : IntKind.u64.wrap ((j : Int) + 1) = ((j + 1 : Nat) : Int) := by rw [IntWalk.u64_in _ (by have := HK.out; omega)]; omega
    have hc := readEntry_c wr w.heap.size g r hD.out
    clear hlt
    go_wp2_with fail
    refine hc.mono ?_
    rintro e w4 ⟨ok, x, rfl, hg4, h0, h1⟩
    have HB4 := hid (hB.out.grown hg4 hB.out.size (fun k hk => by injection hk with hk; have := HGW.out; omega))
    cases ok
    · have HN := hid (par_stop (b := b) (by have := HJM.out; have := HM.out; omega) hX.out (h0 rfl))
      have HB5 : Hid (Below w.heap.size w (w4.alloc (.cells #[.string (str (x).nm), .int .i64 (x).k.t, .int .i64 (x).k.c, .int .i64 (x).k.e, .int .i64 (x).b, .int .i64 (x).p.k.t, .int .i64 (x).p.k.c, .int .i64 (x).p.k.e, .int .i64 (x).p.id, .int .i64 (x).p.ver, .int .i64 (x).sz] 90))) := hid (HB4.out.alloc HB4.out.size _)
      clear hc hg4 h0 h1 HB4 hB
      go_wp2
      go_ret2
      exact PRes.no HN.out HB5.out
    · obtain ⟨r', hx, hok, hd⟩ := h1 rfl
      have HX5 := hid (rdBls_snoc hX.out hx)
      have HOK5 : Hid (∀ y ∈ xs ++ [x], bbOk y) := hid (fun y hy => by
        rcases List.mem_append.1 hy with h | h
        · exact hOk.out y h
        · rw [List.mem_singleton] at h; rw [h]; exact hok)
      have HO5 : Hid ((w4.alloc (.cells #[.string (str (x).nm), .int .i64 (x).k.t, .int .i64 (x).k.c, .int .i64 (x).k.e, .int .i64 (x).b, .int .i64 (x).p.k.t, .int .i64 (x).p.k.c, .int .i64 (x).p.k.e, .int .i64 (x).p.id, .int .i64 (x).p.ver, .int .i64 (x).sz] 90)).ownsRow (g + 1) 90 11 (.slice A3 j d3) j (bcs xs)) := hid ((own_keep hO.out (fun k hk => hg4.block k (own_lt hO.out k hk) (fun e => by have := own_ge hO.out k hk; injection e with e; omega))).alloc _)
      have HD5 : Hid (Rd (w4.alloc (.cells #[.string (str (x).nm), .int .i64 (x).k.t, .int .i64 (x).k.c, .int .i64 (x).k.e, .int .i64 (x).b, .int .i64 (x).p.k.t, .int .i64 (x).p.k.c, .int .i64 (x).p.k.e, .int .i64 (x).p.id, .int .i64 (x).p.ver, .int .i64 (x).sz] 90)) w.heap.size g r') := hid (hd.keep fun k _ hk => (((Below.refl w4.heap.size w4).alloc (Nat.le_refl _) _).block k (by have := hd.lt; omega)))
      have HB5 : Hid (Below w.heap.size w (w4.alloc (.cells #[.string (str (x).nm), .int .i64 (x).k.t, .int .i64 (x).k.c, .int .i64 (x).k.e, .int .i64 (x).b, .int .i64 (x).p.k.t, .int .i64 (x).p.k.c, .int .i64 (x).p.k.e, .int .i64 (x).p.id, .int .i64 (x).p.ver, .int .i64 (x).sz] 90))) := hid (HB4.out.alloc HB4.out.size _)
      have hk5 := Blk.new w4 90 #[.string (str (x).nm), .int .i64 (x).k.t, .int .i64 (x).k.c, .int .i64 (x).k.e, .int .i64 (x).b, .int .i64 (x).p.k.t, .int .i64 (x).p.k.c, .int .i64 (x).p.k.e, .int .i64 (x).p.id, .int .i64 (x).p.ver, .int .i64 (x).sz]
      obtain ⟨c0, c1, c2, c3, c4, c5, c6, c7, c8, c9, c10⟩ := bbB_cells (x := x) hk5
      have hS5 : g + 1 ≤ (w4.alloc (.cells #[.string (str (x).nm), .int .i64 (x).k.t, .int .i64 (x).k.c, .int .i64 (x).k.e, .int .i64 (x).b, .int .i64 (x).p.k.t, .int .i64 (x).p.k.c, .int .i64 (x).p.k.e, .int .i64 (x).p.id, .int .i64 (x).p.ver, .int .i64 (x).sz] 90)).heap.size := by have := hS.out; have := hg4.size; simp; omega
      have HLX : Hid (xs.length = j) := hlx
      have hjb : j ≤ 1000000 := by have := HJM.out; have := HK.out; omega
      clear hc hg4 h0 h1 HB4 hB hx hok hd hk5 hO hD hOk hX
      have hq5 : (w4.alloc (.cells #[.string (str (x).nm), .int .i64 (x).k.t, .int .i64 (x).k.c, .int .i64 (x).k.e, .int .i64 (x).b, .int .i64 (x).p.k.t, .int .i64 (x).p.k.c, .int .i64 (x).p.k.e, .int .i64 (x).p.id, .int .i64 (x).p.ver, .int .i64 (x).sz] 90)).heap.size = w4.heap.size + 1 := by simp
      go_wp2_with (at_builtin; refine wpList_appB _ rfl _ _ rfl (g + 1) A3 d3 xs j HLX.out rfl HO5.out x (w4.heap.size + 1) hq5 rfl hjb hS5 ?_)
      intro A6 d6 w6 hO6 hb6 hg6
      have HO6 : Hid (w6.ownsRow (g + 1) 90 11 (.slice A6 (j + 1) d6) (j + 1) (bcs (xs ++ [x]))) := hid (by rw [bcs_app, bcs_one]; exact hO6)
      have HD6 := hid (HD5.out.keep (w' := w6) fun k _ hk => hb6.block k (by omega))
      have HB6 := hid (HB5.out.trans (hb6.mono (by have := HGW.out; omega)))
      have HS6 : Hid (g + 1 ≤ w6.heap.size) := hid (Nat.le_trans hS5 hb6.size)
      clear hq5 c0 c1 c2 c3 c4 c5 c6 c7 c8 c9 c10 hO6 hb6 hg6 HO5 HD5 HB5 hS5
      go_wp2_with fail
      go_roundg (m - (j + 1))
      case measure => have := hgk.out; have := HJM.out; omega
      case rel => exact ⟨j + 1, A6, d6, xs ++ [x], r', rfl, rfl, hid rfl, hid HJM.out, hid (by rw [List.length_append, HLX.out]; rfl), HX5, HOK5, HO6, HD6, HB6, HS6⟩
  · have hjm : j = m := by have := hj.out; omega
    subst hjm
    have j2 : ¬ (j : Int) < (j : Int) := by omega
    have HE := hid (par_end (b := b) (xs := xs) (r := r) HZ.out (by have := HM.out; have := HK.out; omega) (by rw [HM.out]; exact hX.out) hOk.out)
    have hdn := done_good wr w.heap.size g r hD.out
    have HBR : Hid (BRow 90 wr (g + 1) A3 d3 xs) := hid (by unfold BRow; rw [hlx.out]; exact hO.out)
    have HSL : Hid (BSl wr wr.heap.size A3 j xs) := hid (by have := HBR.out.sl; rwa [hlx.out] at this)
    have HRI := hid (rising_c A3 j d3 xs wr HSL.out (by have := HK.out; omega))
    have HI6 : Hid (∀ x ∈ xs, i64ok x.b) := hid (fun x hx => by have := (hOk.out x hx).2.2.2.2.2.2.2; exact ⟨by omega, by omega⟩)
    clear hge hj hgk hX hOk hO hD
    cases hre : r.isEmpty
    · have HN : Hid (parB b = none) := hid (by rw [HE.out, if_neg]; rintro ⟨e, _⟩; rw [e] at hre; cases hre)
      rw [hre] at hdn
      go_wp2_with fail
      refine hdn.mono ?_
      rintro e w7 ⟨rfl, rfl⟩
      go_wp2
      go_ret2
      exact PRes.no HN.out hB.out
    rw [hre] at hdn
    go_wp2_with fail
    refine hdn.mono ?_
    rintro e w7 ⟨rfl, rfl⟩
    go_wp2_with fail
    refine HRI.out.mono ?_
    rintro e w8 ⟨rfl, hb8⟩
    have HB8 := hid (hB.out.trans (hb8.mono hB.out.size))
    have HSL8 : Hid (BSl w8 w8.heap.size A3 j xs) := hid (by
      have := HSL.out.keep hb8
      exact ⟨this.1, fun q hq => by obtain ⟨a1, a2, a3, a4, a5⟩ := this.2 q hq; exact ⟨a1, a2, a3, Nat.lt_of_lt_of_le a4 hb8.size, a5⟩⟩)
    have HBR8 : Hid (BRow 90 w8 (g + 1) A3 d3 xs) := hid (HBR.out.keep fun k hk => hb8.block k (own_lt HBR.out k hk))
    clear hb8 hB HSL HBR hdn
    by_cases h2 : xs.Pairwise risen
    · rw [decide_eq_true h2]
      go_wp2_with fail
      refine (apart_c A3 j d3 xs w8 HSL8.out (by have := HK.out; omega) HI6.out).mono ?_
      rintro e w9 ⟨rfl, hb9⟩
      have HB9 := hid (HB8.out.trans (hb9.mono HB8.out.size))
      have HBR9 : Hid (BRow 90 w9 (g + 1) A3 d3 xs) := hid (HBR8.out.keep fun k hk => hb9.block k (own_lt HBR8.out k hk))
      clear hb9
      by_cases h3 : (xs.map Bb.b).Nodup
      · rw [decide_eq_true h3]
        have HN : Hid (parB b = some xs) := hid (by rw [HE.out, if_pos]; exact ⟨List.isEmpty_iff.1 hre, h2, h3⟩)
        clear h2 h3 hre
        go_wp2
        go_ret2
        have hN := HN.out
        have hl := hlx.out
        refine ⟨A3, j, d3, by rw [hN]; rfl, by rw [hN]; exact hl.symm, ?_, HB9.out⟩
        rw [hN]
        exact ownsRow_base_a HBR9.out (by have := HGW.out; omega)
      · rw [decide_eq_false h3]
        have HN : Hid (parB b = none) := hid (by rw [HE.out, if_neg]; rintro ⟨_, _, e⟩; exact h3 e)
        clear h2 h3 hre
        go_wp2
        go_ret2
        exact PRes.no HN.out HB9.out
    · rw [decide_eq_false h2]
      have HN : Hid (parB b = none) := hid (by rw [HE.out, if_neg]; rintro ⟨_, e, _⟩; exact h2 e)
      clear h2 hre
      go_wp2
      go_ret2
      exact PRes.no HN.out HB8.out
end Go.Proofs.YtdkbpjkoiegflaaGreat
