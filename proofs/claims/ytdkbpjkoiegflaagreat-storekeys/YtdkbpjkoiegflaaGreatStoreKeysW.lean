/- The walk of StoreKeys: it answers true, whatever the input. -/
import Derived.Test.YtdkbpjkoiegflaaGreatStWh
import Derived.Test.YtdkbpjkoiegflaaGreatStOpL
import Derived.Test.YtdkbpjkoiegflaaGreatStAp
namespace Go.Proofs.YtdkbpjkoiegflaaGreat
open Go.RowKit

theorem rangeAt_heapK {w w' : World} {b off : Nat} {l : List Value} (h : w.rangeAt b off l) (hk : w'.heap[b]? = w.heap[b]?) : w'.rangeAt b off l := rangeAt_keep h hk
theorem meas_jbK {k m j : Nat} (h : k = m - j) (hj : j < m) : m - (j + 1) < k := by omega
theorem ky_20 {j : Nat} (h : ¬ 20 ≤ j) : j + 1 ≤ 20 := by omega
theorem rangeK {w : World} {b off : Nat} {k : Ky} (h0 : w.cell? ⟨b, off, none⟩ = some (.int .i64 k.t)) (h1 : w.cell? ⟨b, off + 1, none⟩ = some (.int .i64 k.c)) (h2 : w.cell? ⟨b, off + 2, none⟩ = some (.int .i64 k.e)) : w.rangeAt b off [.int .i64 k.t, .int .i64 k.c, .int .i64 k.e] := by
  intro j u hu
  match j, hu with
  | 0, hu => injection hu with hu; rw [← hu]; exact h0
  | 1, hu => injection hu with hu; rw [← hu]; exact h1
  | 2, hu => injection hu with hu; rw [← hu]; exact h2
theorem exec_key {w : World} {b off : Nat} {op : Oper} {a : Act} {k : Ky} (x : Operand) (ho : op.op = .load 54 x) (hx : a.eval x = .pointer (some ⟨b, off, none⟩)) (h : w.rangeAt b off [.int .i64 k.t, .int .i64 k.c, .int .i64 k.e]) : (execOp a.eval op).run Tryz.prog w = .ok (.value (.agg #[.int .i64 k.t, .int .i64 k.c, .int .i64 k.e])) w :=
  exec_load_mid 54 x ho b off hx [.int .i64 k.t, .int .i64 k.c, .int .i64 k.e] _ h Tryz.underlying54 rfl Tryz.infoKey
set_option maxRecDepth 100000 in
theorem eq_keyd (a b : Ky) (wx : World) : (Op.equalIn 10000 54 (.agg #[.int .i64 a.t, .int .i64 a.c, .int .i64 a.e]) (.agg #[.int .i64 b.t, .int .i64 b.c, .int .i64 b.e])).run Tryz.prog wx = .ok (decide (a = b)) wx := by
  obtain ⟨a1, a2, a3⟩ := a
  obtain ⟨b1, b2, b3⟩ := b
  go_simp
  by_cases h1 : a1 = b1
  · subst h1
    by_cases h2 : a2 = b2
    · subst h2
      by_cases h3 : a3 = b3
      · subst h3; simp
      · simp [h3]
    · simp [h2]
  · simp [h1]
theorem vunder_on {C : Ob → Ob} {w wr : World} {gv : Nat} {v : Va} {X : Nat → Prop} (hC : Foc C) (h : On w (C (VtO gv v)) wr X) (hd : Nat) (hh : hd < 18446744073709551616) :
    Calls Tryz.prog 43 #[.pointer (some ⟨gv, 0, none⟩), .int .u64 (hd : Int)] wr fun e w' => e = .returned (.tuple #[(.agg #[.int .i64 (uK v hd).t, .int .i64 (uK v hd).c, .int .i64 (uK v hd).e]), .bool (decide (1 ≤ hd ∧ hd ≤ v.L.length))]) ∧ Below wr.heap.size wr w' := by
  obtain ⟨F, h1, _⟩ := h.at_ hC
  exact under_c wr F gv v h1 _ hd rfl hh
def kyC (k : Ky) : List Value := [.int .i64 k.t, .int .i64 k.c, .int .i64 k.e]
theorem kyC_one (k : Ky) : ∀ u ∈ kyC k, u.oneCell' = true := by
  intro u hu
  simp only [kyC, List.mem_cons, List.mem_nil_iff, or_false] at hu
  rcases hu with rfl | rfl | rfl <;> rfl
theorem ky_set {w : World} {b : Nat} {t : TypeId} {cs : Array Value} (h : Blk w b t cs) (hs : cs.size = 3) (k : Ky) : Blk (w.setCells b 0 (kyC k)) b t #[.int .i64 k.t, .int .i64 k.c, .int .i64 k.e] := h.setAll (kyC k) (by rw [hs]; rfl)
theorem wp_storeK {w : World} {b : Nat} {t : TypeId} {cs : Array Value} {op : Oper} {a : Act} {K : Act → World → Prop} {Q : Exit → Act → World → Prop} (x y : Operand) (ho : op.op = .store 54 x y)
    (h : Blk w b t cs) (hs : cs.size = 3) (hx : a.eval x = .pointer (some ⟨b, 0, none⟩)) (k : Ky) (hy : a.eval y = .agg #[.int .i64 k.t, .int .i64 k.c, .int .i64 k.e])
    (hK : ∀ w', Blk w' b t #[.int .i64 k.t, .int .i64 k.c, .int .i64 k.e] → w.grownBy w' (some b) → K (a.put op.dst undef) w') : op.wp Tryz.prog a w K Q :=
  wp_store_mid 54 x y ho b 0 (kyC k).toArray hx hy (blk_there h 3 (Nat.le_of_eq hs.symm)) Tryz.infoKey (all_oneCell_toArray (kyC_one k)) (hK _ (ky_set h hs k) (grown_setCells b (kyC k) 0 w))
def kyP (x : Bb) (y : Hc) : Bool := decide (y.nm = x.nm ∧ y.k = x.k ∧ (y.n : Int) = x.sz)
theorem ky_any {x : Bb} {hl : List Hc} {i : Nat} (h : i < hl.length) : (hl.take (i + 1)).any (kyP x) = ((hl.take i).any (kyP x) || kyP x hl[i]) := by
  rw [List.take_add_one, List.getElem?_eq_getElem h, List.any_append]
  congr 1
  show (kyP x hl[i] || false) = _
  rw [Bool.or_false]
theorem ky_wrap {i1 i0 i2 h : Nat} (hs : i0 + 256 * i1 + 65536 * i2 = h) (h0 : i0 < 256) (h1 : i1 < 256) (h2 : i2 < 256) : ∃ a b c : Nat, IntKind.u64.wrap (i0 : Int) = (i0 : Int) ∧ IntKind.u64.wrap (i1 : Int) = (i1 : Int) ∧ IntKind.u64.wrap (i2 : Int) = (i2 : Int) ∧ IntKind.u64.wrap (256 * (i1 : Int)) = (a : Int) ∧ IntKind.u64.wrap ((i0 : Int) + (a : Int)) = (b : Int) ∧ IntKind.u64.wrap (65536 * (i2 : Int)) = (c : Int) ∧ IntKind.u64.wrap ((b : Int) + (c : Int)) = (h : Int) :=
  ⟨256 * i1, i0 + 256 * i1, 65536 * i2, IntWalk.u64_in _ (by omega), IntWalk.u64_in _ (by omega), IntWalk.u64_in _ (by omega), by rw [IntWalk.u64_in _ (by omega)]; omega, by rw [IntWalk.u64_in _ (by omega)]; omega, by rw [IntWalk.u64_in _ (by omega)]; omega, by rw [IntWalk.u64_in _ (by omega)]; omega⟩
theorem ky_under {v : Va} {x : Bb} (h : ∃ e, behind v.L x.p.id.toNat = some e ∧ e.k = x.k ∧ x.p.id.toNat ≤ v.L.length) : uK v x.p.id.toNat = x.k ∧ decide (1 ≤ x.p.id.toNat ∧ x.p.id.toNat ≤ v.L.length) = true := by
  obtain ⟨e, h1, h2, h3⟩ := h
  refine ⟨by unfold uK; rw [h1]; exact h2, decide_eq_true ⟨?_, h3⟩⟩
  unfold behind at h1
  split at h1
  · cases h1
  · omega
theorem ky_wk {k m : Nat} (h : m ≤ 600) (hk : k < m) : wrap64 ((k : Int) + 1) = ((k + 1 : Nat) : Int) := by unfold wrap64; omega
theorem ky_found {v : Va} {L : List Bb} {hl : List Hc} (h : Hv v L (hl.map Hc.ch)) (hr : L.Pairwise risen) : ∀ x ∈ L, ∃ y ∈ hl, y.nm = x.nm ∧ y.k = x.k ∧ (y.body.length : Int) = x.sz := by
  intro x hx
  have h1 : x.nm ∈ (hl.map Hc.ch).map Ch.nm := h.1.mem_iff.2 (List.mem_map_of_mem hx)
  obtain ⟨c, hc, hcn⟩ := List.mem_map.1 h1
  obtain ⟨y, hy, rfl⟩ := List.mem_map.1 hc
  obtain ⟨b, hb, hn, hk, he⟩ := h.2 y.ch hc
  have hbx : b = x := risen_ne hr hb hx (hn.trans hcn)
  subst hbx
  exact ⟨y, hy, hcn, hk.symm, he.2.2⟩
theorem ky_raw {w : World} {base h m c : Nat} {A : Option Addr} (ho : w.ownsRow base 5 1 (.slice A m c) m (bs (pad (le8 h)))) (hh : h < 16777216) :
    ∃ i0 i1 i2 : Nat, i0 + 256 * i1 + 65536 * i2 = h ∧ i0 < 256 ∧ i1 < 256 ∧ i2 < 256 ∧ 3 ≤ m ∧ ∃ g, A = some ⟨g, 0, none⟩ ∧ w.cell? ⟨g, 0, none⟩ = some (.int .u8 (i0 : Int)) ∧ w.cell? ⟨g, 1, none⟩ = some (.int .u8 (i1 : Int)) ∧ w.cell? ⟨g, 2, none⟩ = some (.int .u8 (i2 : Int)) := by
  obtain ⟨a, b, d, ha, hb, hd, p0, p1, p2, hs⟩ := le8_low hh
  have hl : (pad (le8 h)).length = m := by have := ho.1; rw [bs_len] at this; omega
  have hm : 3 ≤ m := by have := (List.getElem?_eq_some_iff.1 p2).1; omega
  have hB := Bts.own ho
  obtain ⟨g, hA, _, _, _⟩ := own_some ho (by omega)
  subst hA
  have key : ∀ i x : Nat, x < 256 → i < m → (pad (le8 h))[i]? = some (UInt8.ofNat x) → w.cell? ⟨g, i, none⟩ = some (.int .u8 (x : Int)) := by
    intro i x hx hi hp
    obtain ⟨g', off, e, _, _, hc⟩ := hB.at_ hi
    injection e with e
    injection e with e1 e2 _
    subst e1 e2
    rw [Nat.zero_add] at hc
    rw [hc]
    obtain ⟨h1, h2⟩ := List.getElem?_eq_some_iff.1 hp
    rw [h2, UInt8.toNat_ofNat', Nat.mod_eq_of_lt hx]
  exact ⟨a, b, d, hs, ha, hb, hd, hm, g, rfl, key 0 a ha (by omega) p0, key 1 b hb (by omega) p1, key 2 d hd (by omega) p2⟩
set_option maxRecDepth 100000 in
set_option maxHeartbeats 16000000 in
theorem walkStoreKeys (A : Option Addr) (n c0 : Nat) (w : World) (hops : OpsT w w.heap.size A n ∧ n ≤ 9223372036854775807) :
    Calls Tryz.prog 10 #[.slice A n c0] w fun e w' => e = .returned (.bool true) ∧ Below w.heap.size w w' := by
  have HOPS := hid hops.1
  have HN := hid hops.2
  clear hops
  go_enter Tryz.func10, Tryz.ntmps10
  go_wp2_with fail
  refine (stfirst_c w).mono ?_
  rintro e w1 ⟨rfl, hb1⟩
  have HB1 := hid hb1
  clear hb1
  go_wp2_with fail
  refine (dnew_on w w1 HB1.out 50 (by omega) (by omega)).mono ?_
  rintro e w2 ⟨gd, rfl, hv2, -⟩
  have HV2 := hid hv2
  clear hv2 HB1
  go_wp2_with fail
  refine (vnew_on HV2.out).mono ?_
  rintro e w3 ⟨gv, rfl, hv3, -⟩
  have HV3 := hid (tc_new hv3).1
  clear hv3 HV2
  go_wp2_with fail
  generalize w3.heap.size = gc at *
  generalize w3.alloc (.cells #[.int .i64 0, .int .i64 0] 33) = w4 at *
  refine (sopen_on Foc.self (fun _ h => h) HV3.out (by decide) (by decide)).mono ?_
  rintro e w5 ⟨pp, rfl, hb5, -, ho5⟩
  have HSI0 : Hid (SI (St.new 50) Va.new ⟨0, 0⟩ [] false) := hid (SI.init (by decide) (by decide))
  obtain ⟨hz, hzL⟩ := so_new (n := 50) (by decide)
  obtain ⟨gs, G5, rfl, hs5, hg5⟩ := ho5 hz
  rw [hz]
  rw [hzL] at hs5
  have HV5 : Hid (On w (TS gd (St.new 50) gv Va.new gc ⟨0, 0⟩ gs 50 [] false) w5 (fun _ => False)) := hid ((HV3.out.with_ (TC.ok _ _ _ _ _ _) hs5 hb5 hg5).less (fun x hx => hx.elim))
  clear HV3 hs5 hg5 hb5 ho5 hz hzL
  go_wp2_with fail
  go_loopg [9, 40] n (fun kk hv iv w2 => ∃ (j : Nat) (d : St) (v : Va) (c : Ce) (L : List Bb) (A1 : Option Addr) (n1 c1 : Nat) (hl : List Hc), hv = .slice A1 n1 c1 ∧ iv = .int .i64 (j : Int) ∧ Hid (kk = n - j) ∧ Hid (j ≤ n) ∧ Hid (SI d v c L false) ∧ Hid (Hv v L (hl.map Hc.ch)) ∧ Hid (hl.length = n1) ∧
    Hid (d.n = 50 ∧ d.lim = none ∧ d.W.length ≤ 30 * j ∧ v.L.length ≤ 30 * j ∧ c.ver ≤ j ∧ n1 ≤ 30 * j ∧ j ≤ 20) ∧ Hid (On w (TS gd d gv v gc c gs 50 L false) w2 (fun b => A1.map (·.block) = some b)) ∧ Hid (HRow w2 w.heap.size A1 n1 c1 hl) ∧ Hid (∀ x ∈ hl, HcOk (fun b => b < w.heap.size) w x))
  case atStart => exact ⟨0, _, _, _, [], none, 0, 0, [], rfl, rfl, hid (by omega), hid (Nat.zero_le _), HSI0, hid (Hv.init _), hid rfl, hid ⟨rfl, rfl, Nat.zero_le _, Nat.zero_le _, Nat.zero_le _, Nat.zero_le _, by omega⟩, hid (HV5.out.less fun x hx => by cases hx), hid (own_nilrow _ _ _ _), hid (fun x hx => by cases hx)⟩
  case round =>
  obtain ⟨j, d, v, c, L, A1, n1, c1, hl, rfl, rfl, hgk, hj, hSI, hHv, hln, hbd, hV, hRW, hHO⟩ := hrel
  clear HV5
  rename World => w2
  rcases Nat.lt_or_ge j n with hlt | hge
  · have HJN := hid hlt
    have j1 : (0 : Int) ≤ (j : Int) := by omega
    have j2 : (j : Int) < (n : Int) := by omega
    have j3 : decide ((j : Int) < (n : Int)) = true := by simpa using hlt
    have j4 : decide (j < n) = true := by simpa using hlt
    have wj : wrap64 ((j : Int) + 1) = ((j + 1 : Nat) : Int) := by have := hbd.out; unfold wrap64; omega
    obtain ⟨b, off, o, rfl, hbl, hR0, hO0⟩ := HOPS.out j hlt
    have HO := hid hO0
    have hr0 := rangeAt_keep hR0 (hV.out.below.block b hbl)
    obtain ⟨c0', c1', c2, c3, c4, c5, c6, c7, c8⟩ := range9 hr0
    have hb3 : Below w2.heap.size w2 (w2.alloc (.cells #[.int .i64 (o).kind, .int .i64 (o).i, .int .i64 (o).fr, .slice (o).LA (o).Ln (o).Lc, .slice (o).BA (o).Bn (o).Bc, .slice (o).KA (o).Kn (o).Kc, .int .i64 (o).k.t, .int .i64 (o).k.c, .int .i64 (o).k.e] 56)) := (Below.refl _ _).alloc (Nat.le_refl _) _
    have HKB := hid (Blk.new w2 56 #[.int .i64 (o).kind, .int .i64 (o).i, .int .i64 (o).fr, .slice (o).LA (o).Ln (o).Lc, .slice (o).BA (o).Bn (o).Bc, .slice (o).KA (o).Kn (o).Kc, .int .i64 (o).k.t, .int .i64 (o).k.c, .int .i64 (o).k.e])
    obtain ⟨x0, x1, x2, x3, x4, x5, x6, x7, x8⟩ := opB_cells (o := o) HKB.out
    have HV3 := hid ((hV.out.add (TS.ok _ _ _ _ _ _ _ _ _ _) hb3 (Y := fun x => x = w2.heap.size) (fun x hx => by subst hx; simp)))
    have HRW3 : Hid (HRow (w2.alloc (.cells #[.int .i64 (o).kind, .int .i64 (o).i, .int .i64 (o).fr, .slice (o).LA (o).Ln (o).Lc, .slice (o).BA (o).Bn (o).Bc, .slice (o).KA (o).Kn (o).Kc, .int .i64 (o).k.t, .int .i64 (o).k.c, .int .i64 (o).k.e] 56)) w.heap.size A1 n1 c1 hl) := hid (World.ownsRow.below hRW.out hb3)
    clear hlt hbl hR0 hO0 hr0 hb3 hV hRW
    by_cases h20 : 20 ≤ j
    · have m1 : decide ((20 : Int) ≤ (j : Int)) = true := by simp; omega
      have m2 : decide (20 ≤ j) = true := by simpa using h20
      clear h20
      go_wp2
      go_ret
      exact ⟨rfl, HV3.out.below⟩
    have m1 : decide ((20 : Int) ≤ (j : Int)) = false := by simp; omega
    have m2 : decide (20 ≤ j) = false := by simp; omega
    have HJ20 := hid h20
    clear h20
    have hlo := long_c o (w2.alloc (.cells #[.int .i64 (o).kind, .int .i64 (o).i, .int .i64 (o).fr, .slice (o).LA (o).Ln (o).Lc, .slice (o).BA (o).Bn (o).Bc, .slice (o).KA (o).Kn (o).Kc, .int .i64 (o).k.t, .int .i64 (o).k.c, .int .i64 (o).k.e] 56)) w.heap.size (HO.out.below HV3.out.below) HV3.out.below.size
    go_wp2_with fail
    clear m1 m2
    refine hlo.mono ?_
    rintro e w4 ⟨z, rfl, hb4, hz⟩
    have HV4 := hid (HV3.out.go (TS.ok _ _ _ _ _ _ _ _ _ _) hb4)
    have HRW4 : Hid (HRow w4 w.heap.size A1 n1 c1 hl) := hid (World.ownsRow.below HRW3.out hb4)
    have HK4 := hid (HKB.out.keep (hb4.block _ HKB.out.lt))
    clear hlo hb4 HKB HV3 HRW3 x0 x1 x2 x3 x4 x5 x6 x7 x8 c0' c1' c2 c3 c4 c5 c6 c7 c8
    rcases hz with rfl | ⟨hz, hsm⟩
    · go_wp2
      go_ret
      exact ⟨rfl, HV4.out.below⟩
    have m1 : decide ((1000 : Int) ≤ z) = false := by simp; omega
    have m2 : ¬ (1000 : Int) ≤ z := by omega
    have HSM := hid hsm
    obtain ⟨x0, x1, x2, x3, x4, x5, x6, x7, x8⟩ := opB_cells (o := o) HK4.out
    generalize w2.heap.size = bo at *
    clear hz hsm
    have HLL : Hid (o.l.length = o.Ln) := hid HO.out.l.len
    have HCM := hid (SI.commit (s := ⟨d, v, c, L, false⟩) (l := o.l.map Hc.ch) hSI.out rfl hHv.out (by show v.L.length + _ ≤ _; rw [List.length_map, HLL.out]; have := hbd.out; have := HSM.out.l; omega) (fun x hx => by
      obtain ⟨y, hy, rfl⟩ := List.mem_map.1 hx
      obtain ⟨i, hi, rfl⟩ := List.mem_iff_getElem.1 hy
      exact (HO.out.l.el i hi).choose_spec.choose_spec.2.2.2.2.k))
    have hcm := commit_on (C := fun P => P) (q := o.Lc) Foc.self HV4.out ((HO.out.below HV4.out.below).l.mono fun b hb _ => .inr hb) (by have := HSM.out.l; omega) hSI.out.rg hSI.out.wf (fun x hx => by have := hSI.out.bl x hx; rw [show d.n = 50 from hbd.out.1] at this; exact this) hbd.out.1 (by show d.W.length ≤ _; have := hbd.out; omega) (by have := hbd.out; omega) (by have := hbd.out; omega)
    have HLN : Hid ((o.l.map Hc.ch).length ≤ 20) := hid (by rw [List.length_map, HLL.out]; exact HSM.out.l)
    generalize hcs : cmS ⟨d, v, c, L, false⟩ (o.l.map Hc.ch) = S at *
    clear hcs
    obtain ⟨E, d', v', c', L', dn'⟩ := S
    have HCO := hid hcm
    clear hcm
    go_wp2_with fail
    clear m1 m2
    refine HCO.out.mono ?_
    rintro e w6 ⟨rfl, hv6, hst6⟩
    have HDN : Hid (d'.lim = none ∧ dn' = false) := hid (HCM.out.1.on hbd.out.2.1)
    have hdn := HDN.out.2
    rw [hdn] at hv6
    have HV6 : Hid (On w (TS gd d' gv v' gc c' gs 50 L' false) w6 (fun b => A1.map (·.block) = some b ∨ b = bo)) := hid hv6
    have HRW6 := hid (hrow_keep HRW4.out (hst6.less fun x hx => .inl hx))
    have HK6 := hid (HK4.out.keep (hst6.2 bo (.inr rfl)))
    clear hv6 hst6 hdn HV4 HRW4 HK4 HCO x0 x1 x2 x3 x4 x5 x6 x7 x8
    obtain ⟨x0, x1, x2, x3, x4, x5, x6, x7, x8⟩ := opB_cells (o := o) HK6.out
    have HSI8 : Hid (SI d' v' c' L' false) := hid HCM.out.1.si
    have HVV : Hid (d'.n = 50 ∧ d'.lim = none ∧ d'.W.length ≤ 30 * (j + 1) ∧ v'.L.length ≤ 30 * (j + 1) ∧ c'.ver ≤ j + 1) := hid (by
      obtain ⟨E', h1, h2⟩ := HCM.out.1.V
      have h3 := HCM.out.1.n
      have h4 := HCM.out.1.Wl
      have h5 := HLN.out
      have h6 := hbd.out
      have h8 := HDN.out
      have h7 : c'.ver ≤ c.ver + 1 := by
        by_cases hE : E = 0
        · have := (HCM.out.1.ok hE).2; dsimp only at this; omega
        · have := (HCM.out.1.er hE).2; dsimp only at this; rw [this]; omega
      have hvl : v'.L.length ≤ 30 * (j + 1) := by dsimp only at h1; rw [h1, List.length_append]; clear wj; omega
      dsimp only at h3 h4
      clear wj
      refine ⟨h3.trans h6.1, h8.1, by omega, hvl, by omega⟩)
    clear hSI HDN
    by_cases hE : E = 0
    · subst hE
      have HHv0 : Hid (Hv v' L' (applied (hl.map Hc.ch) (o.l.map Hc.ch))) := hid (by have := HCM.out.1.hv; dsimp only at this; rwa [if_pos rfl] at this)
      have HAP := hid (applied_c (w := w6) (U := fun b => b < w.heap.size ∨ A1.map (·.block) = some b) (ca := c1) (cb := o.Lc) (HRW6.out.chOn hln.out (fun b hb => .inr hb) (fun x hx => ((hHO.out x hx).keep HV6.out.below.size (fun b hb _ => HV6.out.below.block b hb)).wide fun b hb => .inl hb)) ((HO.out.below HV6.out.below).l.mono fun b hb _ => .inl hb) (by have := hbd.out; omega) (by have := HSM.out.l; omega))
      clear HCM
      go_wp2_with fail
      refine HAP.out.mono ?_
      rintro e w8 ⟨A8, n8, c8, h8, rfl, hr8, hl8, he8, hn8, hm8, hb8⟩
      have HV8 : Hid (On w (TS gd d' gv v' gc c' gs 50 L' false) w8 (fun b => A8.map (·.block) = some b)) := hid ((HV6.out.add (TS.ok _ _ _ _ _ _ _ _ _ _) hb8 (Y := fun b => A8.map (·.block) = some b) (fun x hx => ⟨own_ge hr8 x hx, own_lt hr8 x hx⟩)).less fun x hx => .inr hx)
      have HRW8 : Hid (HRow w8 w.heap.size A8 n8 c8 h8) := hid (ownsRow_base_a hr8 HV6.out.below.size)
      have HHv8 : Hid (Hv v' L' (h8.map Hc.ch)) := hid (by rw [he8]; exact HHv0.out)
      have HLN8 : Hid (h8.length = n8) := hid hl8
      have HHO8 : Hid (∀ x ∈ h8, HcOk (fun b => b < w.heap.size) w x) := hid (fun x hx => by
        rcases hm8 x hx with h | h
        · exact hHO.out x h
        · obtain ⟨i, hi, rfl⟩ := List.mem_iff_getElem.1 h
          exact (HO.out.l.el i hi).choose_spec.choose_spec.2.2.2.2)
      have HBD8 : Hid (n8 ≤ 30 * (j + 1) ∧ n8 ≤ 600) := hid (by have h1 := hbd.out; have h2 := HSM.out.l; have h3 := HJ20.out; clear wj; omega)
      clear hr8 hl8 he8 hn8 hm8 hb8 HAP HHv0 HV6 HRW6 HK6 x0 x1 x2 x3 x4 x5 x6 x7 x8 hHv hln hbd hHO HO HSM HLL HLN
      have HLE : Hid (L'.length = n8) := hid (by rw [HHv8.out.len, List.length_map]; exact HLN8.out)
      have HXY : Hid (∀ x ∈ L', ∃ y ∈ h8, y.nm = x.nm ∧ y.k = x.k ∧ (y.body.length : Int) = x.sz) := hid (ky_found HHv8.out (rise_of HSI8.out.rg))
      go_wp2_with fail
      refine (slist_on (ts_s gd d' gv v' gc c') HV8.out (rise_of HSI8.out.rg) (by have := HSI8.out.rg.2.2; omega) (fun x hx => by have := (HSI8.out.rg.1 x hx).1.2; unfold maxLen; omega)).mono ?_
      rintro e w11 ⟨A11, k11, rfl, hr11, hb11⟩
      have HV11 : Hid (On w (TS gd d' gv v' gc c' gs 50 L' false) w11 (fun b => A8.map (·.block) = some b ∨ A11.map (·.block) = some b)) := hid (On.row HV8.out (TS.ok _ _ _ _ _ _ _ _ _ _) hb11 hr11)
      have HRW11 : Hid (HRow w11 w.heap.size A8 n8 c8 h8) := hid (World.ownsRow.below HRW8.out hb11)
      have HR11 : Hid (BRow 90 w11 w8.heap.size A11 k11 L') := hid hr11
      rw [HLE.out]
      clear hb11 hr11 HV8 HRW8
      go_wp2_with fail
      go_loopg [70] n8 (fun kk iv wr => ∃ k : Nat, iv = .int .i64 (k : Int) ∧ Hid (kk = n8 - k) ∧ Hid (k ≤ n8) ∧ Hid (On w (TS gd d' gv v' gc c' gs 50 L' false) wr (fun b => A8.map (·.block) = some b ∨ A11.map (·.block) = some b)) ∧ Hid (HRow wr w.heap.size A8 n8 c8 h8) ∧ Hid (BRow 90 wr w8.heap.size A11 k11 L'))
      case atStart => exact ⟨0, rfl, hid rfl, hid (Nat.zero_le _), HV11, HRW11, HR11⟩
      case round =>
      obtain ⟨k, rfl, hgk2, hk, hQ, hR, hP⟩ := hrel
      clear HV11 HRW11 HR11
      rename World => wr
      rcases Nat.lt_or_ge k n8 with hlt2 | hge2
      · have HKM := hid hlt2
        have hil : k < L'.length := by rw [HLE.out]; exact hlt2
        have k1 : (0 : Int) ≤ (k : Int) := by omega
        have k2 : (k : Int) < (n8 : Int) := by omega
        have k3 : decide ((k : Int) < (n8 : Int)) = true := by simpa using hlt2
        have k4 : decide (k < n8) = true := decide_eq_true hlt2
        have wk : wrap64 ((k : Int) + 1) = ((k + 1 : Nat) : Int) := ky_wk HBD8.out.2 hlt2
        obtain ⟨b7, hA7, hbl, hr⟩ := hP.out.elem hil
        have HMEM := hid (List.getElem_mem hil)
        generalize L'[k] = x at *
        have HRAW := hid (HSI8.out.raw HMEM.out HVV.out.2.1)
        have HHND := hid (HSI8.out.hand HMEM.out)
        have HPK : Hid (x.p.k = x.k) := hid (HSI8.out.rg.1 x HMEM.out).2.2.1
        have HPV := hid (HSI8.out.pv x HMEM.out)
        have HFND := hid (HXY.out x HMEM.out)
        obtain ⟨c0', c1', c2, c3, c4, c5, c6, c7, c8', c9, c10⟩ := range11 hr
        have HBX := hid (Blk.new wr 90 (#[.string (str x.nm), .int .i64 x.k.t, .int .i64 x.k.c, .int .i64 x.k.e, .int .i64 x.b, .int .i64 x.p.k.t, .int .i64 x.p.k.c, .int .i64 x.p.k.e, .int .i64 x.p.id, .int .i64 x.p.ver, .int .i64 x.sz]))
        have hbx : Below wr.heap.size wr (wr.alloc (.cells (#[.string (str x.nm), .int .i64 x.k.t, .int .i64 x.k.c, .int .i64 x.k.e, .int .i64 x.b, .int .i64 x.p.k.t, .int .i64 x.p.k.c, .int .i64 x.p.k.e, .int .i64 x.p.id, .int .i64 x.p.ver, .int .i64 x.sz]) 90)) := (Below.refl _ _).alloc (Nat.le_refl _) _
        have HQ2 := hid (hQ.out.go (TS.ok _ _ _ _ _ _ _ _ _ _) hbx)
        have HR2 : Hid (HRow (wr.alloc (.cells (#[.string (str x.nm), .int .i64 x.k.t, .int .i64 x.k.c, .int .i64 x.k.e, .int .i64 x.b, .int .i64 x.p.k.t, .int .i64 x.p.k.c, .int .i64 x.p.k.e, .int .i64 x.p.id, .int .i64 x.p.ver, .int .i64 x.sz]) 90)) w.heap.size A8 n8 c8 h8) := hid (World.ownsRow.below hR.out hbx)
        have HP2 : Hid (BRow 90 (wr.alloc (.cells (#[.string (str x.nm), .int .i64 x.k.t, .int .i64 x.k.c, .int .i64 x.k.e, .int .i64 x.b, .int .i64 x.p.k.t, .int .i64 x.p.k.c, .int .i64 x.p.k.e, .int .i64 x.p.id, .int .i64 x.p.ver, .int .i64 x.sz]) 90)) w8.heap.size A11 k11 L') := hid (World.ownsRow.below hP.out hbx)
        have x4 : (wr.alloc (.cells (#[.string (str x.nm), .int .i64 x.k.t, .int .i64 x.k.c, .int .i64 x.k.e, .int .i64 x.b, .int .i64 x.p.k.t, .int .i64 x.p.k.c, .int .i64 x.p.k.e, .int .i64 x.p.id, .int .i64 x.p.ver, .int .i64 x.sz]) 90)).cell? ⟨wr.heap.size, 4, none⟩ = some (.int .i64 x.b) := (HBX.out.cell 4).trans rfl
        subst hA7
        clear hlt2 hil hr hbl hQ hR hP hbx
        go_wp2_with fail
        clear c0' c1' c2 c3 c4 c5 c6 c7 c8' c9 c10
        refine (dread_on ((ts_t gs gd gv gc 50 L' false).comp (tc_d gv v' gc c')) HQ2.out x.b).mono ?_
        rintro e w15 ⟨A15, m15, k15, rfl, ho15, -, hb15⟩
        rw [HRAW.out.1]
        rw [HRAW.out.2] at ho15
        have HQ3 := hid (HQ2.out.go (TS.ok _ _ _ _ _ _ _ _ _ _) hb15)
        have HR3 : Hid (HRow w15 w.heap.size A8 n8 c8 h8) := hid (World.ownsRow.below HR2.out hb15)
        have HP3 : Hid (BRow 90 w15 w8.heap.size _ k11 L') := hid (World.ownsRow.below HP2.out hb15)
        have HBX3 := hid (HBX.out.keep (hb15.block _ HBX.out.lt))
        obtain ⟨i0, i1, i2, hid_, hh0, hh1, hh2, hm15, g15, rfl, y0, y1, y2⟩ := ky_raw ho15 (by have h1 := HHND.out.choose_spec.2.2; have h2 := HVV.out; have h3 := HJ20.out; clear wj wk; omega)
        have HHD := hid hid_
        clear x4 hb15 ho15 HQ2 HR2 HP2 HBX hid_
        have HUN := hid (ky_under HHND.out)
        have HPID : Hid (x.p.id.toNat < 16777216) := hid (by have h1 := HHND.out.choose_spec.2.2; have h2 := HVV.out; have h3 := HJ20.out; clear wj wk; omega)
        go_upto_region 20 with fail
        go_cut [17, 18] from 81 to 101 (fun kv ov wx => ∃ kb : Nat, kv = .pointer (some ⟨kb, 0, none⟩) ∧ ov = .bool true ∧ Hid (Blk wx kb 54 #[.int .i64 x.k.t, .int .i64 x.k.c, .int .i64 x.k.e]) ∧ Hid (On w (TS gd d' gv v' gc c' gs 50 L' false) wx (fun b => A8.map (·.block) = some b ∨ (some (⟨b7, 0, none⟩ : Addr)).map (·.block) = some b)) ∧ Hid (HRow wx w.heap.size A8 n8 c8 h8) ∧ Hid (BRow 90 wx w8.heap.size (some ⟨b7, 0, none⟩) k11 L') ∧ Hid (Blk wx wr.heap.size 90 (#[.string (str x.nm), .int .i64 x.k.t, .int .i64 x.k.c, .int .i64 x.k.e, .int .i64 x.b, .int .i64 x.p.k.t, .int .i64 x.p.k.c, .int .i64 x.p.k.e, .int .i64 x.p.id, .int .i64 x.p.ver, .int .i64 x.sz])))
        case first =>
          obtain ⟨a1, a2, a3, w0, w1', w2', p1, p2, p3, p4⟩ := ky_wrap HHD.out hh0 hh1 hh2
          have hg15 : g15 < w15.heap.size := block_lt y0
          have hm1 : (0 : Int) < (m15 : Int) := by omega
          have hm2 : (1 : Int) < (m15 : Int) := by omega
          have hm3 : (2 : Int) < (m15 : Int) := by omega
          have hm4 : 0 < m15 := by omega
          have hm5 : 1 < m15 := by omega
          have hm6 : 2 < m15 := by omega
          generalize x.p.id.toNat = hd at *
          clear hh0 hh1 hh2 hm15
          refine wp_region_held_drew (S := fun wx => Below w15.heap.size w15 wx) (by kernel_rfl) ((Below.refl _ _).drew) (fun HS => ?_)
          refine wpAnyH_take (i := 0) (oi := ?oia0) (v := ?va0) ?hia0 (by kernel_rfl) (by kernel_rfl) (by kernel_rfl) ?hQa0 ?hya0 HS ?resta0
          case hia0 => simp only [List.getElem?_toArray, List.getElem?_cons_zero]; exact rfl
          case hQa0 => exact fun _ _ _ h => h
          case hya0 =>
            refine Or.inl ⟨by rfl, ?_⟩
            intro wS hSw
            go_simp
            try with_reducible rfl
          try simp only [Act.put, List.setIfInBounds_toArray, List.set_cons_zero, List.set_cons_succ]
          refine wpAnyH_take (i := 1) (oi := ?oia1) (v := ?va1) ?hia1 (by kernel_rfl) (by kernel_rfl) (by kernel_rfl) ?hQa1 ?hya1 HS ?resta1
          case hia1 => simp only [List.getElem?_toArray, List.getElem?_cons_succ, List.getElem?_cons_zero]; exact rfl
          case hQa1 => exact fun _ _ _ h => h
          case hya1 =>
            refine Or.inl ⟨by rfl, ?_⟩
            intro wS hSw
            go_simp
            try with_reducible rfl
          try simp only [Act.put, List.setIfInBounds_toArray, List.set_cons_zero, List.set_cons_succ]
          refine wpAnyH_take (i := 2) (oi := ?oia2) (v := ?va2) ?hia2 (by kernel_rfl) (by kernel_rfl) (by kernel_rfl) ?hQa2 ?hya2 HS ?resta2
          case hia2 => simp only [List.getElem?_toArray, List.getElem?_cons_succ, List.getElem?_cons_zero]; exact rfl
          case hQa2 => exact fun _ _ _ h => h
          case hya2 =>
            refine Or.inl ⟨by rfl, ?_⟩
            intro wS hSw
            go_simp
            try with_reducible rfl
          try simp only [Act.put, List.setIfInBounds_toArray, List.set_cons_zero, List.set_cons_succ]
          refine wpAnyH_take (i := 3) (oi := ?oia3) (v := ?va3) ?hia3 (by kernel_rfl) (by kernel_rfl) (by kernel_rfl) ?hQa3 ?hya3 HS ?resta3
          case hia3 => simp only [List.getElem?_toArray, List.getElem?_cons_succ, List.getElem?_cons_zero]; exact rfl
          case hQa3 => exact fun _ _ _ h => h
          case hya3 =>
            refine Or.inl ⟨by rfl, ?_⟩
            intro wS hSw
            have z0 := (World.cell?_of_block (hSw.block g15 hg15)).trans y0
            have z1 := (World.cell?_of_block (hSw.block g15 hg15)).trans y1
            have z2 := (World.cell?_of_block (hSw.block g15 hg15)).trans y2
            go_simp
            try with_reducible rfl
          try simp only [Act.put, List.setIfInBounds_toArray, List.set_cons_zero, List.set_cons_succ]
          refine wpAnyH_take (i := 4) (oi := ?oia4) (v := ?va4) ?hia4 (by kernel_rfl) (by kernel_rfl) (by kernel_rfl) ?hQa4 ?hya4 HS ?resta4
          case hia4 => simp only [List.getElem?_toArray, List.getElem?_cons_succ, List.getElem?_cons_zero]; exact rfl
          case hQa4 => exact fun _ _ _ h => h
          case hya4 =>
            refine Or.inl ⟨by rfl, ?_⟩
            intro wS hSw
            go_simp
            try with_reducible rfl
          try simp only [Act.put, List.setIfInBounds_toArray, List.set_cons_zero, List.set_cons_succ]
          refine wpAnyH_take (i := 5) (oi := ?oia5) (v := ?va5) ?hia5 (by kernel_rfl) (by kernel_rfl) (by kernel_rfl) ?hQa5 ?hya5 HS ?resta5
          case hia5 => simp only [List.getElem?_toArray, List.getElem?_cons_succ, List.getElem?_cons_zero]; exact rfl
          case hQa5 => exact fun _ _ _ h => h
          case hya5 =>
            refine Or.inl ⟨by rfl, ?_⟩
            intro wS hSw
            go_simp
            try with_reducible rfl
          try simp only [Act.put, List.setIfInBounds_toArray, List.set_cons_zero, List.set_cons_succ]
          refine wpAnyH_take (i := 6) (oi := ?oia6) (v := ?va6) ?hia6 (by kernel_rfl) (by kernel_rfl) (by kernel_rfl) ?hQa6 ?hya6 HS ?resta6
          case hia6 => simp only [List.getElem?_toArray, List.getElem?_cons_succ, List.getElem?_cons_zero]; exact rfl
          case hQa6 => exact fun _ _ _ h => h
          case hya6 =>
            refine Or.inl ⟨by rfl, ?_⟩
            intro wS hSw
            go_simp
            try with_reducible rfl
          try simp only [Act.put, List.setIfInBounds_toArray, List.set_cons_zero, List.set_cons_succ]
          refine wpAnyH_take (i := 7) (oi := ?oia7) (v := ?va7) ?hia7 (by kernel_rfl) (by kernel_rfl) (by kernel_rfl) ?hQa7 ?hya7 HS ?resta7
          case hia7 => simp only [List.getElem?_toArray, List.getElem?_cons_succ, List.getElem?_cons_zero]; exact rfl
          case hQa7 => exact fun _ _ _ h => h
          case hya7 =>
            refine Or.inl ⟨by rfl, ?_⟩
            intro wS hSw
            have z0 := (World.cell?_of_block (hSw.block g15 hg15)).trans y0
            have z1 := (World.cell?_of_block (hSw.block g15 hg15)).trans y1
            have z2 := (World.cell?_of_block (hSw.block g15 hg15)).trans y2
            go_simp
            try with_reducible rfl
          try simp only [Act.put, List.setIfInBounds_toArray, List.set_cons_zero, List.set_cons_succ]
          refine wpAnyH_take (i := 8) (oi := ?oia8) (v := ?va8) ?hia8 (by kernel_rfl) (by kernel_rfl) (by kernel_rfl) ?hQa8 ?hya8 HS ?resta8
          case hia8 => simp only [List.getElem?_toArray, List.getElem?_cons_succ, List.getElem?_cons_zero]; exact rfl
          case hQa8 => exact fun _ _ _ h => h
          case hya8 =>
            refine Or.inl ⟨by rfl, ?_⟩
            intro wS hSw
            go_simp
            try with_reducible rfl
          try simp only [Act.put, List.setIfInBounds_toArray, List.set_cons_zero, List.set_cons_succ]
          refine wpAnyH_take (i := 9) (oi := ?oia9) (v := ?va9) ?hia9 (by kernel_rfl) (by kernel_rfl) (by kernel_rfl) ?hQa9 ?hya9 HS ?resta9
          case hia9 => simp only [List.getElem?_toArray, List.getElem?_cons_succ, List.getElem?_cons_zero]; exact rfl
          case hQa9 => exact fun _ _ _ h => h
          case hya9 =>
            refine Or.inl ⟨by rfl, ?_⟩
            intro wS hSw
            go_simp
            try with_reducible rfl
          try simp only [Act.put, List.setIfInBounds_toArray, List.set_cons_zero, List.set_cons_succ]
          refine wpAnyH_take (i := 10) (oi := ?oia10) (v := ?va10) ?hia10 (by kernel_rfl) (by kernel_rfl) (by kernel_rfl) ?hQa10 ?hya10 HS ?resta10
          case hia10 => simp only [List.getElem?_toArray, List.getElem?_cons_succ, List.getElem?_cons_zero]; exact rfl
          case hQa10 => exact fun _ _ _ h => h
          case hya10 =>
            refine Or.inl ⟨by rfl, ?_⟩
            intro wS hSw
            go_simp
            try with_reducible rfl
          try simp only [Act.put, List.setIfInBounds_toArray, List.set_cons_zero, List.set_cons_succ]
          refine wpAnyH_take (i := 11) (oi := ?oia11) (v := ?va11) ?hia11 (by kernel_rfl) (by kernel_rfl) (by kernel_rfl) ?hQa11 ?hya11 HS ?resta11
          case hia11 => simp only [List.getElem?_toArray, List.getElem?_cons_succ, List.getElem?_cons_zero]; exact rfl
          case hQa11 => exact fun _ _ _ h => h
          case hya11 =>
            refine Or.inl ⟨by rfl, ?_⟩
            intro wS hSw
            go_simp
            try with_reducible rfl
          try simp only [Act.put, List.setIfInBounds_toArray, List.set_cons_zero, List.set_cons_succ]
          refine wpAnyH_take (i := 12) (oi := ?oia12) (v := ?va12) ?hia12 (by kernel_rfl) (by kernel_rfl) (by kernel_rfl) ?hQa12 ?hya12 HS ?resta12
          case hia12 => simp only [List.getElem?_toArray, List.getElem?_cons_succ, List.getElem?_cons_zero]; exact rfl
          case hQa12 => exact fun _ _ _ h => h
          case hya12 =>
            refine Or.inl ⟨by rfl, ?_⟩
            intro wS hSw
            go_simp
            try with_reducible rfl
          try simp only [Act.put, List.setIfInBounds_toArray, List.set_cons_zero, List.set_cons_succ]
          refine wpAnyH_take (i := 13) (oi := ?oia13) (v := ?va13) ?hia13 (by kernel_rfl) (by kernel_rfl) (by kernel_rfl) ?hQa13 ?hya13 HS ?resta13
          case hia13 => simp only [List.getElem?_toArray, List.getElem?_cons_succ, List.getElem?_cons_zero]; exact rfl
          case hQa13 => exact fun _ _ _ h => h
          case hya13 =>
            refine Or.inl ⟨by rfl, ?_⟩
            intro wS hSw
            have z0 := (World.cell?_of_block (hSw.block g15 hg15)).trans y0
            have z1 := (World.cell?_of_block (hSw.block g15 hg15)).trans y1
            have z2 := (World.cell?_of_block (hSw.block g15 hg15)).trans y2
            go_simp
            try with_reducible rfl
          try simp only [Act.put, List.setIfInBounds_toArray, List.set_cons_zero, List.set_cons_succ]
          refine wpAnyH_take (i := 14) (oi := ?oia14) (v := ?va14) ?hia14 (by kernel_rfl) (by kernel_rfl) (by kernel_rfl) ?hQa14 ?hya14 HS ?resta14
          case hia14 => simp only [List.getElem?_toArray, List.getElem?_cons_succ, List.getElem?_cons_zero]; exact rfl
          case hQa14 => exact fun _ _ _ h => h
          case hya14 =>
            refine Or.inl ⟨by rfl, ?_⟩
            intro wS hSw
            go_simp
            try with_reducible rfl
          try simp only [Act.put, List.setIfInBounds_toArray, List.set_cons_zero, List.set_cons_succ]
          refine wpAnyH_take (i := 15) (oi := ?oia15) (v := ?va15) ?hia15 (by kernel_rfl) (by kernel_rfl) (by kernel_rfl) ?hQa15 ?hya15 HS ?resta15
          case hia15 => simp only [List.getElem?_toArray, List.getElem?_cons_succ, List.getElem?_cons_zero]; exact rfl
          case hQa15 => exact fun _ _ _ h => h
          case hya15 =>
            refine Or.inl ⟨by rfl, ?_⟩
            intro wS hSw
            go_simp
            try with_reducible rfl
          try simp only [Act.put, List.setIfInBounds_toArray, List.set_cons_zero, List.set_cons_succ]
          refine wpAnyH_take (i := 16) (oi := ?oia16) (v := ?va16) ?hia16 (by kernel_rfl) (by kernel_rfl) (by kernel_rfl) ?hQa16 ?hya16 HS ?resta16
          case hia16 => simp only [List.getElem?_toArray, List.getElem?_cons_succ, List.getElem?_cons_zero]; exact rfl
          case hQa16 => exact fun _ _ _ h => h
          case hya16 =>
            refine Or.inl ⟨by rfl, ?_⟩
            intro wS hSw
            go_simp
            try with_reducible rfl
          try simp only [Act.put, List.setIfInBounds_toArray, List.set_cons_zero, List.set_cons_succ]
          refine wpAnyH_ready (rs := [17, 21]) (by kernel_rfl) (by simp) ?_
          refine (AllReadyH.cons (o := ?oa17) ?hoa17 (fun K hK => ?stepa17) (AllReadyH.cons (o := ?oa21) ?hoa21 (fun K hK => ?stepa21) AllReadyH.nil))
          case hoa17 => simp only [List.getElem?_toArray, List.getElem?_cons_succ, List.getElem?_cons_zero]; exact rfl
          case hoa21 => simp only [List.getElem?_toArray, List.getElem?_cons_succ, List.getElem?_cons_zero]; exact rfl
          case stepa17 =>
            go_simp
            refine (vunder_on ((ts_t gs gd gv gc 50 L' false).comp (tc_v gd d' gc c')) (HQ3.out.go (TS.ok _ _ _ _ _ _ _ _ _ _) HS) hd (Nat.lt_trans HPID.out (by decide))).mono ?_
            rintro e w16 ⟨rfl, hb16⟩
            rw [HUN.out.1, HUN.out.2]
            have HB16 : Hid (Below w15.heap.size w15 w16) := hid (HS.trans (hb16.mono HS.size))
            clear hb16
            refine hK.out _ _ HB16.out (fun HS => ?_)
            clear hK K
            try simp only [Act.put, List.setIfInBounds_toArray, List.set_cons_zero, List.set_cons_succ]
            refine wpAnyH_take (i := 18) (oi := ?oiam18) (v := ?vam18) ?hiam18 (by kernel_rfl) (by kernel_rfl) (by kernel_rfl) ?hQam18 ?hyam18 HS ?restam18
            case hiam18 => simp only [List.getElem?_toArray, List.getElem?_cons_succ, List.getElem?_cons_zero]; exact rfl
            case hQam18 => exact fun _ _ _ h => h
            case hyam18 =>
              refine Or.inl ⟨by rfl, ?_⟩
              intro wS hSw
              go_simp
              try with_reducible rfl
            try simp only [Act.put, List.setIfInBounds_toArray, List.set_cons_zero, List.set_cons_succ]
            refine wpAnyH_take (i := 19) (oi := ?oiam19) (v := ?vam19) ?hiam19 (by kernel_rfl) (by kernel_rfl) (by kernel_rfl) ?hQam19 ?hyam19 HS ?restam19
            case hiam19 => simp only [List.getElem?_toArray, List.getElem?_cons_succ, List.getElem?_cons_zero]; exact rfl
            case hQam19 => exact fun _ _ _ h => h
            case hyam19 =>
              refine Or.inl ⟨by rfl, ?_⟩
              intro wS hSw
              go_simp
              try with_reducible rfl
            try simp only [Act.put, List.setIfInBounds_toArray, List.set_cons_zero, List.set_cons_succ]
            refine wpAnyH_take (i := 20) (oi := ?oiam20) (v := ?vam20) ?hiam20 (by kernel_rfl) (by kernel_rfl) (by kernel_rfl) ?hQam20 ?hyam20 HS ?restam20
            case hiam20 => simp only [List.getElem?_toArray, List.getElem?_cons_succ, List.getElem?_cons_zero]; exact rfl
            case hQam20 => exact fun _ _ _ h => h
            case hyam20 =>
              refine Or.inl ⟨by rfl, ?_⟩
              intro wS hSw
              go_simp
              try with_reducible rfl
            try simp only [Act.put, List.setIfInBounds_toArray, List.set_cons_zero, List.set_cons_succ]
            refine wpAnyH_ready (rs := [21]) (by kernel_rfl) (by simp) ?_
            refine AllReadyH.cons (o := ?oam21) ?hoam21 (fun K hK => ?stepam21) AllReadyH.nil
            case hoam21 => simp only [List.getElem?_toArray, List.getElem?_cons_succ, List.getElem?_cons_zero]; exact rfl
            go_simp
            refine hK.out _ _ (HB16.out.alloc HB16.out.size _) (fun HS => ?_)
            clear hK K
            try simp only [Act.put, List.setIfInBounds_toArray, List.set_cons_zero, List.set_cons_succ]
            refine wpAnyH_ready (rs := [22]) (by kernel_rfl) (by simp) ?_
            refine AllReadyH.cons (o := ?oam22) ?hoam22 (fun K hK => ?stepam22) AllReadyH.nil
            case hoam22 => simp only [List.getElem?_toArray, List.getElem?_cons_succ, List.getElem?_cons_zero]; exact rfl
            go_simp
            refine hK.out _ _ (HB16.out.alloc HB16.out.size _) (fun HS => ?_)
            clear hK K
            try simp only [Act.put]
            refine wpAnyH_take (i := 23) (oi := ?oiam23) (v := ?vam23) ?hiam23 (by kernel_rfl) (by kernel_rfl) (by kernel_rfl) ?hQam23 ?hyam23 HS ?restam23
            case hiam23 => simp only [List.getElem?_toArray, List.getElem?_cons_succ, List.getElem?_cons_zero]; exact rfl
            case hQam23 => exact fun _ _ _ h => h
            case hyam23 =>
              refine Or.inl ⟨by rfl, ?_⟩
              intro wS hSw
              go_simp
              try with_reducible rfl
            try simp only [Act.put, List.setIfInBounds_toArray, List.set_cons_zero, List.set_cons_succ]
            refine wpAnyH_done (by kernel_rfl) ?_ _
            have hbz : Below w15.heap.size w15 (w16.alloc (.cells #[.int .i64 x.k.t, .int .i64 x.k.c, .int .i64 x.k.e] 54)) := HB16.out.alloc HB16.out.size _
            clear HS
            go_wp2_with fail
            go_meet
            case rel => exact ⟨_, rfl, rfl, hid (Blk.new _ _ _), hid (HQ3.out.go (TS.ok _ _ _ _ _ _ _ _ _ _) hbz), hid (World.ownsRow.below HR3.out hbz), hid (World.ownsRow.below HP3.out hbz), hid (HBX3.out.keep (hbz.block _ HBX3.out.lt))⟩
          case stepa21 =>
            go_simp
            refine hK.out _ _ ((Below.refl _ _).drew.alloc (Nat.le_refl _) _) (fun HS => ?_)
            clear hK K
            try simp only [Act.put, List.setIfInBounds_toArray, List.set_cons_zero, List.set_cons_succ]
            refine wpAnyH_ready (rs := [17]) (by kernel_rfl) (by simp) ?_
            refine AllReadyH.cons (o := ?oan17) ?hoan17 (fun K hK => ?stepan17) AllReadyH.nil
            case hoan17 => simp only [List.getElem?_toArray, List.getElem?_cons_succ, List.getElem?_cons_zero]; exact rfl
            go_simp
            refine (vunder_on ((ts_t gs gd gv gc 50 L' false).comp (tc_v gd d' gc c')) (HQ3.out.go (TS.ok _ _ _ _ _ _ _ _ _ _) HS) hd (Nat.lt_trans HPID.out (by decide))).mono ?_
            rintro e w17 ⟨rfl, hb16⟩
            rw [HUN.out.1, HUN.out.2]
            have HB16 : Hid (Below w15.heap.size w15 w17) := hid (HS.trans (hb16.mono HS.size))
            have HK17 : Hid (Blk w17 w15.drew.heap.size 54 #[.int .i64 0, .int .i64 0, .int .i64 0]) := hid ((Blk.new w15.drew 54 #[.int .i64 0, .int .i64 0, .int .i64 0]).keep (hb16.block _ (by simp)))
            clear hb16
            refine hK.out _ _ HB16.out (fun HS => ?_)
            clear hK K
            try simp only [Act.put, List.setIfInBounds_toArray, List.set_cons_zero, List.set_cons_succ]
            refine wpAnyH_take (i := 18) (oi := ?oian18) (v := ?van18) ?hian18 (by kernel_rfl) (by kernel_rfl) (by kernel_rfl) ?hQan18 ?hyan18 HS ?restan18
            case hian18 => simp only [List.getElem?_toArray, List.getElem?_cons_succ, List.getElem?_cons_zero]; exact rfl
            case hQan18 => exact fun _ _ _ h => h
            case hyan18 =>
              refine Or.inl ⟨by rfl, ?_⟩
              intro wS hSw
              go_simp
              try with_reducible rfl
            try simp only [Act.put, List.setIfInBounds_toArray, List.set_cons_zero, List.set_cons_succ]
            refine wpAnyH_take (i := 19) (oi := ?oian19) (v := ?van19) ?hian19 (by kernel_rfl) (by kernel_rfl) (by kernel_rfl) ?hQan19 ?hyan19 HS ?restan19
            case hian19 => simp only [List.getElem?_toArray, List.getElem?_cons_succ, List.getElem?_cons_zero]; exact rfl
            case hQan19 => exact fun _ _ _ h => h
            case hyan19 =>
              refine Or.inl ⟨by rfl, ?_⟩
              intro wS hSw
              go_simp
              try with_reducible rfl
            try simp only [Act.put, List.setIfInBounds_toArray, List.set_cons_zero, List.set_cons_succ]
            refine wpAnyH_take (i := 20) (oi := ?oian20) (v := ?van20) ?hian20 (by kernel_rfl) (by kernel_rfl) (by kernel_rfl) ?hQan20 ?hyan20 HS ?restan20
            case hian20 => simp only [List.getElem?_toArray, List.getElem?_cons_succ, List.getElem?_cons_zero]; exact rfl
            case hQan20 => exact fun _ _ _ h => h
            case hyan20 =>
              refine Or.inl ⟨by rfl, ?_⟩
              intro wS hSw
              go_simp
              try with_reducible rfl
            try simp only [Act.put, List.setIfInBounds_toArray, List.set_cons_zero, List.set_cons_succ]
            refine wpAnyH_ready (rs := [22]) (by kernel_rfl) (by simp) ?_
            refine AllReadyH.cons (o := ?oan22) ?hoan22 (fun K hK => ?stepan22) AllReadyH.nil
            case hoan22 => simp only [List.getElem?_toArray, List.getElem?_cons_succ, List.getElem?_cons_zero]; exact rfl
            refine wp_storeK _ _ rfl HK17.out rfl rfl x.k rfl ?_
            intro w18 hk18 hg18
            have HB18 : Hid (Below w15.heap.size w15 w18) := hid (HB16.out.grown hg18 HB16.out.size (fun k hk => by injection hk with hk; exact Nat.le_of_eq hk))
            have HK18 := hid hk18
            clear hk18 hg18
            refine hK.out _ _ HB18.out (fun HS => ?_)
            clear hK K
            try simp only [Act.put]
            refine wpAnyH_take (i := 23) (oi := ?oian23) (v := ?van23) ?hian23 (by kernel_rfl) (by kernel_rfl) (by kernel_rfl) ?hQan23 ?hyan23 HS ?restan23
            case hian23 => simp only [List.getElem?_toArray, List.getElem?_cons_succ, List.getElem?_cons_zero]; exact rfl
            case hQan23 => exact fun _ _ _ h => h
            case hyan23 =>
              refine Or.inl ⟨by rfl, ?_⟩
              intro wS hSw
              go_simp
              try with_reducible rfl
            try simp only [Act.put, List.setIfInBounds_toArray, List.set_cons_zero, List.set_cons_succ]
            refine wpAnyH_done (by kernel_rfl) ?_ _
            have hbz : Below w15.heap.size w15 w18 := HB18.out
            clear HS
            go_wp2_with fail
            go_meet
            case rel => exact ⟨_, rfl, rfl, HK18, hid (HQ3.out.go (TS.ok _ _ _ _ _ _ _ _ _ _) hbz), hid (World.ownsRow.below HR3.out hbz), hid (World.ownsRow.below HP3.out hbz), hid (HBX3.out.keep (hbz.block _ HBX3.out.lt))⟩
        case rest =>
          obtain ⟨kb, rfl, rfl, HKB4, HQ4, HR4, HP4, HBX4⟩ := hcut
          clear HQ3 HR3 HP3 HBX3 y0 y1 y2 HHD HRAW HHND HUN
          rename World => wc
          go_wp2_with fail
          go_loopg [19, 104] n8 (fun k3 fv iv wq => ∃ i : Nat, fv = .bool ((h8.take i).any (kyP x)) ∧ iv = .int .i64 (i : Int) ∧ Hid (k3 = n8 - i) ∧ Hid (i ≤ n8) ∧ Hid (Below wc.heap.size wc wq))
          case atStart => exact ⟨0, rfl, rfl, hid rfl, hid (Nat.zero_le _), hid (Below.refl _ _)⟩
          case round =>
          obtain ⟨i, rfl, rfl, hgk3, hi, hBQ⟩ := hrel
          rename World => wq
          rcases Nat.lt_or_ge i n8 with hlt3 | hge3
          · have HIN := hid hlt3
            have hih : i < (h8).length := by rw [HLN8.out]; exact hlt3
            have i1 : (0 : Int) ≤ (i : Int) := Int.natCast_nonneg i
            have i2 : (i : Int) < (n8 : Int) := Int.ofNat_lt.2 hlt3
            have i3 : decide ((i : Int) < (n8 : Int)) = true := decide_eq_true i2
            have i4 : decide (i < n8) = true := decide_eq_true hlt3
            have wi : wrap64 ((i : Int) + 1) = ((i + 1 : Nat) : Int) := ky_wk HBD8.out.2 hlt3
            have HANY := hid (ky_any (x := x) hih)
            have HYO := hid (HHO8.out _ (List.getElem_mem hih))
            have hrq : HRow wq w.heap.size A8 n8 c8 h8 := World.ownsRow.below HR4.out hBQ.out
            obtain ⟨b9, hA9, hbl9, hr9⟩ := hrq.elem HLN8.out hih
            generalize (h8)[i] = y at *
            generalize (List.take i (h8)).any (kyP x) = f at *
            obtain ⟨c0', c1', c2, c3, c4, c5⟩ := range6 hr9
            have HKY := hid (Blk.new wq 94 #[.string (str (y).nm), .int .i64 (y).k.t, .int .i64 (y).k.c, .int .i64 (y).k.e, .slice (y).A (y).n (y).c, .bool (y).dr])
            obtain ⟨u0, u1, u2', u3, u4', u5'⟩ := hcB_cells (x := y) HKY.out
            have hby : Below wq.heap.size wq (wq.alloc (.cells #[.string (str (y).nm), .int .i64 (y).k.t, .int .i64 (y).k.c, .int .i64 (y).k.e, .slice (y).A (y).n (y).c, .bool (y).dr] 94)) := (Below.refl _ _).alloc (Nat.le_refl _) _
            have HB9 : Hid (Below wc.heap.size wc (wq.alloc (.cells #[.string (str (y).nm), .int .i64 (y).k.t, .int .i64 (y).k.c, .int .i64 (y).k.e, .slice (y).A (y).n (y).c, .bool (y).dr] 94))) := hid (hBQ.out.trans (hby.mono hBQ.out.size))
            have HBX9 := hid (HBX4.out.keep (HB9.out.block _ HBX4.out.lt))
            have v0 : (wq.alloc (.cells #[.string (str (y).nm), .int .i64 (y).k.t, .int .i64 (y).k.c, .int .i64 (y).k.e, .slice (y).A (y).n (y).c, .bool (y).dr] 94)).cell? ⟨wr.heap.size, 0, none⟩ = some (.string (str x.nm)) := (HBX9.out.cell 0).trans rfl
            have v1 : (wq.alloc (.cells #[.string (str (y).nm), .int .i64 (y).k.t, .int .i64 (y).k.c, .int .i64 (y).k.e, .slice (y).A (y).n (y).c, .bool (y).dr] 94)).cell? ⟨wr.heap.size, 1, none⟩ = some (.int .i64 x.k.t) := (HBX9.out.cell 1).trans rfl
            have v2 : (wq.alloc (.cells #[.string (str (y).nm), .int .i64 (y).k.t, .int .i64 (y).k.c, .int .i64 (y).k.e, .slice (y).A (y).n (y).c, .bool (y).dr] 94)).cell? ⟨wr.heap.size, 2, none⟩ = some (.int .i64 x.k.c) := (HBX9.out.cell 2).trans rfl
            have v3 : (wq.alloc (.cells #[.string (str (y).nm), .int .i64 (y).k.t, .int .i64 (y).k.c, .int .i64 (y).k.e, .slice (y).A (y).n (y).c, .bool (y).dr] 94)).cell? ⟨wr.heap.size, 3, none⟩ = some (.int .i64 x.k.e) := (HBX9.out.cell 3).trans rfl
            have v10 : (wq.alloc (.cells #[.string (str (y).nm), .int .i64 (y).k.t, .int .i64 (y).k.c, .int .i64 (y).k.e, .slice (y).A (y).n (y).c, .bool (y).dr] 94)).cell? ⟨wr.heap.size, 10, none⟩ = some (.int .i64 x.sz) := (HBX9.out.cell 10).trans rfl
            have s1 := str_list y.nm
            have s2 := str_list x.nm
            obtain ⟨q, hq⟩ : ∃ q, q = decide (y.k = x.k) := ⟨_, rfl⟩
            have heq : ∀ wx : World, (Op.equalIn 10000 54 (.agg #[.int .i64 y.k.t, .int .i64 y.k.c, .int .i64 y.k.e]) (.agg #[.int .i64 x.k.t, .int .i64 x.k.c, .int .i64 x.k.e])).run Tryz.prog wx = .ok q wx := fun wx => by rw [hq]; exact eq_keyd y.k x.k wx
            have HQK := hid hq
            have HRN : Hid (n8 - (i + 1) < n8 - i) := hid (meas_jbK rfl hlt3)
            rw [hA9]
            have HA9 := hid hA9
            clear hq hlt3 hih hbl9 hr9 hby hA9 hrq
            by_cases hf : f = true
            · subst hf
              go_wp2_with fail
              rw [← HA9.out]
              go_roundg (n8 - (i + 1))
              case measure => rw [hgk3.out]; exact HRN.out
              case rel => exact ⟨i + 1, congrArg Value.bool (by rw [HANY.out]; rfl), by first | rfl | rw [wi], hid rfl, hid HIN.out, HB9⟩
            have hf0 : f = false := by simpa using hf
            subst hf0
            clear hf
            by_cases hn : y.nm = x.nm
            · have d1 : (y.nm == x.nm) = true := by rw [hn]; exact beq_self_eq_true _
              have d2 : ((str y.nm).toList == (str x.nm).toList) = true := by rw [hn]; exact beq_self_eq_true _
              have HNM := hid hn
              clear hn
              cases q with
              | false =>
                have HV0 : Hid (kyP x y = false) := hid (decide_eq_false fun e => absurd e.2.1 (of_decide_eq_false HQK.out.symm))
                go_wp2_with fail
                rw [← HA9.out]
                go_roundg (n8 - (i + 1))
                case measure => rw [hgk3.out]; exact HRN.out
                case rel => exact ⟨i + 1, congrArg Value.bool (by rw [HANY.out, HV0.out]; rfl), by first | rfl | rw [wi], hid rfl, hid HIN.out, HB9⟩
              | true =>
                by_cases hz : (y.n : Int) = x.sz
                · have HV1 : Hid (kyP x y = true) := hid (decide_eq_true ⟨HNM.out, of_decide_eq_true HQK.out.symm, hz⟩)
                  rw [← hz] at v10
                  clear hz
                  go_wp2_with fail
                  rw [← HA9.out]
                  go_roundg (n8 - (i + 1))
                  case measure => rw [hgk3.out]; exact HRN.out
                  case rel => exact ⟨i + 1, congrArg Value.bool (by rw [HANY.out, HV1.out]; rfl), by first | rfl | rw [wi], hid rfl, hid HIN.out, HB9⟩
                · have HV1 : Hid (kyP x y = false) := hid (decide_eq_false fun e => hz e.2.2)
                  have z5 : ((y.n : Int) == x.sz) = false := beq_eq_false_iff_ne.2 hz
                  go_wp2_with fail
                  rw [← HA9.out]
                  go_roundg (n8 - (i + 1))
                  case measure => rw [hgk3.out]; exact HRN.out
                  case rel => exact ⟨i + 1, congrArg Value.bool (by rw [HANY.out, HV1.out]; rfl), by first | rfl | rw [wi], hid rfl, hid HIN.out, HB9⟩
            · have d1 : (y.nm == x.nm) = false := beq_eq_false_iff_ne.2 hn
              have d2 : ((str y.nm).toList == (str x.nm).toList) = false := str_ne hn
              have HV0 : Hid (kyP x y = false) := hid (decide_eq_false fun e => hn e.1)
              go_wp2_with fail
              rw [← HA9.out]
              go_roundg (n8 - (i + 1))
              case measure => rw [hgk3.out]; exact HRN.out
              case rel => exact ⟨i + 1, congrArg Value.bool (by rw [HANY.out, HV0.out]; rfl), by first | rfl | rw [wi], hid rfl, hid HIN.out, HB9⟩
          · have hin : i = n8 := by have := hi.out; omega
            subst hin
            have i2 : ¬ (i : Int) < (i : Int) := fun e => absurd e (Int.lt_irrefl _)
            have HANY : Hid (((h8).take i).any (kyP x) = true) := hid (by
              obtain ⟨y, hy, e1, e2, e3⟩ := HFND.out
              rw [List.take_of_length_le (Nat.le_of_eq HLN8.out)]
              refine List.any_eq_true.2 ⟨y, hy, decide_eq_true ⟨e1, e2, ?_⟩⟩
              rw [← e3, (HHO8.out y hy).b.len])
            rw [HANY.out]
            have HQ5 : Hid (On w (TS gd d' gv v' gc c' gs 50 L' false) wq (fun b => A8.map (·.block) = some b ∨ (some (⟨b7, 0, none⟩ : Addr)).map (·.block) = some b)) := hid (HQ4.out.go (TS.ok _ _ _ _ _ _ _ _ _ _) hBQ.out)
            have HR5 : Hid (HRow wq w.heap.size A8 i c8 h8) := hid (World.ownsRow.below HR4.out hBQ.out)
            have HP5 : Hid (BRow 90 wq w8.heap.size (some ⟨b7, 0, none⟩) k11 L') := hid (World.ownsRow.below HP4.out hBQ.out)
            have hkb := HKB4.out.keep (hBQ.out.block _ HKB4.out.lt)
            have hbx := HBX4.out.keep (hBQ.out.block _ HBX4.out.lt)
            have hk0 := rangeK (k := x.k) (off := 0) ((hkb.cell 0).trans rfl) ((hkb.cell 1).trans rfl) ((hkb.cell 2).trans rfl)
            have hk1 := rangeK (k := x.k) (off := 1) ((hbx.cell 1).trans rfl) ((hbx.cell 2).trans rfl) ((hbx.cell 3).trans rfl)
            have hk5 := rangeK (k := x.p.k) (off := 5) ((hbx.cell 5).trans rfl) ((hbx.cell 6).trans rfl) ((hbx.cell 7).trans rfl)
            have hk9 : wq.cell? ⟨wr.heap.size, 9, none⟩ = some (.int .i64 x.p.ver) := (hbx.cell 9).trans rfl
            have HEK : Hid (∀ wx : World, (Op.equalIn 10000 54 (.agg #[.int .i64 x.k.t, .int .i64 x.k.c, .int .i64 x.k.e]) (.agg #[.int .i64 x.k.t, .int .i64 x.k.c, .int .i64 x.k.e])).run Tryz.prog wx = .ok true wx) := hid (fun wx => by rw [eq_keyd, decide_eq_true rfl])
            have HEP : Hid (∀ wx : World, (Op.equalIn 10000 54 (.agg #[.int .i64 x.p.k.t, .int .i64 x.p.k.c, .int .i64 x.p.k.e]) (.agg #[.int .i64 x.k.t, .int .i64 x.k.c, .int .i64 x.k.e])).run Tryz.prog wx = .ok true wx) := hid (fun wx => by rw [eq_keyd, decide_eq_true HPK.out])
            have p9 : decide ((c'.ver : Int) < x.p.ver) = false := decide_eq_false (Int.not_lt.2 HPV.out)
            clear hge3 hi hgk3 HKB4 HQ4 HR4 HP4 HBX4 hkb hbx hBQ
            go_wp2_with fail
            replace HQ5 : Hid (On w (TS gd d' gv v' gc c' gs 50 L' false) wq (fun _ => False)) ∧ Hid (On w (TS gd d' gv v' gc c' gs 50 L' false) wq (fun b => A8.map (·.block) = some b ∨ (some (⟨b7, 0, none⟩ : Addr)).map (·.block) = some b)) := ⟨hid (HQ5.out.less fun _ h => h.elim), HQ5⟩
            obtain ⟨HQ5, HQ6⟩ := HQ5
            refine wp_region_held_drew (S := fun wx => wx.rangeAt kb 0 [.int .i64 x.k.t, .int .i64 x.k.c, .int .i64 x.k.e] ∧ wx.rangeAt wr.heap.size 1 [.int .i64 x.k.t, .int .i64 x.k.c, .int .i64 x.k.e] ∧ wx.rangeAt wr.heap.size 5 [.int .i64 x.p.k.t, .int .i64 x.p.k.c, .int .i64 x.p.k.e] ∧ wx.cell? ⟨wr.heap.size, 9, none⟩ = some (.int .i64 x.p.ver) ∧ On w (TS gd d' gv v' gc c' gs 50 L' false) wx (fun _ => False)) (by kernel_rfl) ⟨rangeAt_heapK hk0 rfl, rangeAt_heapK hk1 rfl, rangeAt_heapK hk5 rfl, (World.cell?_of_block rfl).trans hk9, HQ5.out.go (TS.ok _ _ _ _ _ _ _ _ _ _) (Below.refl _ _).drew⟩ (fun HS => ?_)
            refine wpAnyH_take (i := 0) (oi := ?oiaz0) (v := ?vaz0) ?hiaz0 (by kernel_rfl) (by kernel_rfl) (by kernel_rfl) ?hQaz0 ?hyaz0 HS ?restaz0
            case hiaz0 => simp only [List.getElem?_toArray, List.getElem?_cons_zero]; exact rfl
            case hQaz0 => exact fun _ _ _ h => h
            case hyaz0 =>
              refine Or.inl ⟨by rfl, ?_⟩
              intro wS hSw
              go_simp
              try with_reducible rfl
            try simp only [Act.put, List.setIfInBounds_toArray, List.set_cons_zero, List.set_cons_succ]
            refine wpAnyH_take (i := 1) (oi := ?oiaz1) (v := ?vaz1) ?hiaz1 (by kernel_rfl) (by kernel_rfl) (by kernel_rfl) ?hQaz1 ?hyaz1 HS ?restaz1
            case hiaz1 => simp only [List.getElem?_toArray, List.getElem?_cons_succ, List.getElem?_cons_zero]; exact rfl
            case hQaz1 => exact fun _ _ _ h => h
            case hyaz1 =>
              refine Or.inl ⟨by rfl, ?_⟩
              intro wS hSw
              go_simp
              try with_reducible rfl
            try simp only [Act.put, List.setIfInBounds_toArray, List.set_cons_zero, List.set_cons_succ]
            refine wpAnyH_take (i := 2) (oi := ?oiaz2) (v := ?vaz2) ?hiaz2 (by kernel_rfl) (by kernel_rfl) (by kernel_rfl) ?hQaz2 ?hyaz2 HS ?restaz2
            case hiaz2 => simp only [List.getElem?_toArray, List.getElem?_cons_succ, List.getElem?_cons_zero]; exact rfl
            case hQaz2 => exact fun _ _ _ h => h
            case hyaz2 =>
              refine Or.inl ⟨by rfl, ?_⟩
              intro wS hSw
              go_simp
              try with_reducible rfl
            try simp only [Act.put, List.setIfInBounds_toArray, List.set_cons_zero, List.set_cons_succ]
            refine wpAnyH_take (i := 3) (oi := ?oiaz3) (v := ?vaz3) ?hiaz3 (by kernel_rfl) (by kernel_rfl) (by kernel_rfl) ?hQaz3 ?hyaz3 HS ?restaz3
            case hiaz3 => simp only [List.getElem?_toArray, List.getElem?_cons_succ, List.getElem?_cons_zero]; exact rfl
            case hQaz3 => exact fun _ _ _ h => h
            case hyaz3 =>
              refine Or.inl ⟨by rfl, ?_⟩
              intro wS hSw
              go_simp
              try with_reducible rfl
            try simp only [Act.put, List.setIfInBounds_toArray, List.set_cons_zero, List.set_cons_succ]
            refine wpAnyH_take (i := 4) (oi := ?oiaz4) (v := ?vaz4) ?hiaz4 (by kernel_rfl) (by kernel_rfl) (by kernel_rfl) ?hQaz4 ?hyaz4 HS ?restaz4
            case hiaz4 => simp only [List.getElem?_toArray, List.getElem?_cons_succ, List.getElem?_cons_zero]; exact rfl
            case hQaz4 => exact fun _ _ _ h => h
            case hyaz4 =>
              refine Or.inl ⟨by rfl, ?_⟩
              intro wS hSw
              go_simp
              try with_reducible rfl
            try simp only [Act.put, List.setIfInBounds_toArray, List.set_cons_zero, List.set_cons_succ]
            refine wpAnyH_take (i := 5) (oi := ?oiaz5) (v := ?vaz5) ?hiaz5 (by kernel_rfl) (by kernel_rfl) (by kernel_rfl) ?hQaz5 ?hyaz5 HS ?restaz5
            case hiaz5 => simp only [List.getElem?_toArray, List.getElem?_cons_succ, List.getElem?_cons_zero]; exact rfl
            case hQaz5 => exact fun _ _ _ h => h
            case hyaz5 =>
              refine Or.inl ⟨by rfl, ?_⟩
              intro wS hSw
              go_simp
              try with_reducible rfl
            try simp only [Act.put, List.setIfInBounds_toArray, List.set_cons_zero, List.set_cons_succ]
            refine wpAnyH_take (i := 6) (oi := ?oiaz6) (v := ?vaz6) ?hiaz6 (by kernel_rfl) (by kernel_rfl) (by kernel_rfl) ?hQaz6 ?hyaz6 HS ?restaz6
            case hiaz6 => simp only [List.getElem?_toArray, List.getElem?_cons_succ, List.getElem?_cons_zero]; exact rfl
            case hQaz6 => exact fun _ _ _ h => h
            case hyaz6 =>
              refine Or.inl ⟨by rfl, ?_⟩
              intro wS hSw
              go_simp
              try with_reducible rfl
            try simp only [Act.put, List.setIfInBounds_toArray, List.set_cons_zero, List.set_cons_succ]
            refine wpAnyH_take (i := 7) (oi := ?oiaz7) (v := ?vaz7) ?hiaz7 (by kernel_rfl) (by kernel_rfl) (by kernel_rfl) ?hQaz7 ?hyaz7 HS ?restaz7
            case hiaz7 => simp only [List.getElem?_toArray, List.getElem?_cons_succ, List.getElem?_cons_zero]; exact rfl
            case hQaz7 => exact fun _ _ _ h => h
            case hyaz7 =>
              refine Or.inl ⟨by rfl, ?_⟩
              intro wS hSw
              refine Eq.trans (exec_key (k := x.k) (.tmp 17) ?_ ?_ hSw.1) ?_
              · rfl
              · rfl
              · with_reducible rfl
            try simp only [Act.put, List.setIfInBounds_toArray, List.set_cons_zero, List.set_cons_succ]
            refine wpAnyH_take (i := 8) (oi := ?oiaz8) (v := ?vaz8) ?hiaz8 (by kernel_rfl) (by kernel_rfl) (by kernel_rfl) ?hQaz8 ?hyaz8 HS ?restaz8
            case hiaz8 => simp only [List.getElem?_toArray, List.getElem?_cons_succ, List.getElem?_cons_zero]; exact rfl
            case hQaz8 => exact fun _ _ _ h => h
            case hyaz8 =>
              refine Or.inl ⟨by rfl, ?_⟩
              intro wS hSw
              go_simp
              try with_reducible rfl
            try simp only [Act.put, List.setIfInBounds_toArray, List.set_cons_zero, List.set_cons_succ]
            refine wpAnyH_take (i := 9) (oi := ?oiaz9) (v := ?vaz9) ?hiaz9 (by kernel_rfl) (by kernel_rfl) (by kernel_rfl) ?hQaz9 ?hyaz9 HS ?restaz9
            case hiaz9 => simp only [List.getElem?_toArray, List.getElem?_cons_succ, List.getElem?_cons_zero]; exact rfl
            case hQaz9 => exact fun _ _ _ h => h
            case hyaz9 =>
              refine Or.inl ⟨by rfl, ?_⟩
              intro wS hSw
              refine Eq.trans (exec_key (k := x.k) (.tmp 140) ?_ ?_ hSw.2.1) ?_
              · rfl
              · rfl
              · with_reducible rfl
            try simp only [Act.put, List.setIfInBounds_toArray, List.set_cons_zero, List.set_cons_succ]
            refine wpAnyH_take (i := 10) (oi := ?oiaz10) (v := ?vaz10) ?hiaz10 (by kernel_rfl) (by kernel_rfl) (by kernel_rfl) ?hQaz10 ?hyaz10 HS ?restaz10
            case hiaz10 => simp only [List.getElem?_toArray, List.getElem?_cons_succ, List.getElem?_cons_zero]; exact rfl
            case hQaz10 => exact fun _ _ _ h => h
            case hyaz10 =>
              refine Or.inl ⟨by rfl, ?_⟩
              intro wS hSw
              have heq := HEK.out
              go_simp
              try with_reducible rfl
            try simp only [Act.put, List.setIfInBounds_toArray, List.set_cons_zero, List.set_cons_succ]
            refine wpAnyH_take (i := 11) (oi := ?oiaz11) (v := ?vaz11) ?hiaz11 (by kernel_rfl) (by kernel_rfl) (by kernel_rfl) ?hQaz11 ?hyaz11 HS ?restaz11
            case hiaz11 => simp only [List.getElem?_toArray, List.getElem?_cons_succ, List.getElem?_cons_zero]; exact rfl
            case hQaz11 => exact fun _ _ _ h => h
            case hyaz11 =>
              refine Or.inl ⟨by rfl, ?_⟩
              intro wS hSw
              go_simp
              try with_reducible rfl
            try simp only [Act.put, List.setIfInBounds_toArray, List.set_cons_zero, List.set_cons_succ]
            refine wpAnyH_take (i := 12) (oi := ?oiaz12) (v := ?vaz12) ?hiaz12 (by kernel_rfl) (by kernel_rfl) (by kernel_rfl) ?hQaz12 ?hyaz12 HS ?restaz12
            case hiaz12 => simp only [List.getElem?_toArray, List.getElem?_cons_succ, List.getElem?_cons_zero]; exact rfl
            case hQaz12 => exact fun _ _ _ h => h
            case hyaz12 =>
              refine Or.inl ⟨by rfl, ?_⟩
              intro wS hSw
              go_simp
              try with_reducible rfl
            try simp only [Act.put, List.setIfInBounds_toArray, List.set_cons_zero, List.set_cons_succ]
            refine wpAnyH_take (i := 13) (oi := ?oiaz13) (v := ?vaz13) ?hiaz13 (by kernel_rfl) (by kernel_rfl) (by kernel_rfl) ?hQaz13 ?hyaz13 HS ?restaz13
            case hiaz13 => simp only [List.getElem?_toArray, List.getElem?_cons_succ, List.getElem?_cons_zero]; exact rfl
            case hQaz13 => exact fun _ _ _ h => h
            case hyaz13 =>
              refine Or.inl ⟨by rfl, ?_⟩
              intro wS hSw
              go_simp
              try with_reducible rfl
            try simp only [Act.put, List.setIfInBounds_toArray, List.set_cons_zero, List.set_cons_succ]
            refine wpAnyH_take (i := 14) (oi := ?oiaz14) (v := ?vaz14) ?hiaz14 (by kernel_rfl) (by kernel_rfl) (by kernel_rfl) ?hQaz14 ?hyaz14 HS ?restaz14
            case hiaz14 => simp only [List.getElem?_toArray, List.getElem?_cons_succ, List.getElem?_cons_zero]; exact rfl
            case hQaz14 => exact fun _ _ _ h => h
            case hyaz14 =>
              refine Or.inl ⟨by rfl, ?_⟩
              intro wS hSw
              go_simp
              try with_reducible rfl
            try simp only [Act.put, List.setIfInBounds_toArray, List.set_cons_zero, List.set_cons_succ]
            refine wpAnyH_take (i := 15) (oi := ?oiaz15) (v := ?vaz15) ?hiaz15 (by kernel_rfl) (by kernel_rfl) (by kernel_rfl) ?hQaz15 ?hyaz15 HS ?restaz15
            case hiaz15 => simp only [List.getElem?_toArray, List.getElem?_cons_succ, List.getElem?_cons_zero]; exact rfl
            case hQaz15 => exact fun _ _ _ h => h
            case hyaz15 =>
              refine Or.inl ⟨by rfl, ?_⟩
              intro wS hSw
              refine Eq.trans (exec_key (k := x.p.k) (.tmp 146) ?_ ?_ hSw.2.2.1) ?_
              · rfl
              · rfl
              · with_reducible rfl
            try simp only [Act.put, List.setIfInBounds_toArray, List.set_cons_zero, List.set_cons_succ]
            refine wpAnyH_take (i := 16) (oi := ?oiaz16) (v := ?vaz16) ?hiaz16 (by kernel_rfl) (by kernel_rfl) (by kernel_rfl) ?hQaz16 ?hyaz16 HS ?restaz16
            case hiaz16 => simp only [List.getElem?_toArray, List.getElem?_cons_succ, List.getElem?_cons_zero]; exact rfl
            case hQaz16 => exact fun _ _ _ h => h
            case hyaz16 =>
              refine Or.inl ⟨by rfl, ?_⟩
              intro wS hSw
              go_simp
              try with_reducible rfl
            try simp only [Act.put, List.setIfInBounds_toArray, List.set_cons_zero, List.set_cons_succ]
            refine wpAnyH_take (i := 17) (oi := ?oiaz17) (v := ?vaz17) ?hiaz17 (by kernel_rfl) (by kernel_rfl) (by kernel_rfl) ?hQaz17 ?hyaz17 HS ?restaz17
            case hiaz17 => simp only [List.getElem?_toArray, List.getElem?_cons_succ, List.getElem?_cons_zero]; exact rfl
            case hQaz17 => exact fun _ _ _ h => h
            case hyaz17 =>
              refine Or.inl ⟨by rfl, ?_⟩
              intro wS hSw
              refine Eq.trans (exec_key (k := x.k) (.tmp 148) ?_ ?_ hSw.2.1) ?_
              · rfl
              · rfl
              · with_reducible rfl
            try simp only [Act.put, List.setIfInBounds_toArray, List.set_cons_zero, List.set_cons_succ]
            refine wpAnyH_take (i := 18) (oi := ?oiaz18) (v := ?vaz18) ?hiaz18 (by kernel_rfl) (by kernel_rfl) (by kernel_rfl) ?hQaz18 ?hyaz18 HS ?restaz18
            case hiaz18 => simp only [List.getElem?_toArray, List.getElem?_cons_succ, List.getElem?_cons_zero]; exact rfl
            case hQaz18 => exact fun _ _ _ h => h
            case hyaz18 =>
              refine Or.inl ⟨by rfl, ?_⟩
              intro wS hSw
              have heq := HEP.out
              go_simp
              try with_reducible rfl
            try simp only [Act.put, List.setIfInBounds_toArray, List.set_cons_zero, List.set_cons_succ]
            refine wpAnyH_take (i := 19) (oi := ?oiaz19) (v := ?vaz19) ?hiaz19 (by kernel_rfl) (by kernel_rfl) (by kernel_rfl) ?hQaz19 ?hyaz19 HS ?restaz19
            case hiaz19 => simp only [List.getElem?_toArray, List.getElem?_cons_succ, List.getElem?_cons_zero]; exact rfl
            case hQaz19 => exact fun _ _ _ h => h
            case hyaz19 =>
              refine Or.inl ⟨by rfl, ?_⟩
              intro wS hSw
              go_simp
              try with_reducible rfl
            try simp only [Act.put, List.setIfInBounds_toArray, List.set_cons_zero, List.set_cons_succ]
            refine wpAnyH_take (i := 20) (oi := ?oiaz20) (v := ?vaz20) ?hiaz20 (by kernel_rfl) (by kernel_rfl) (by kernel_rfl) ?hQaz20 ?hyaz20 HS ?restaz20
            case hiaz20 => simp only [List.getElem?_toArray, List.getElem?_cons_succ, List.getElem?_cons_zero]; exact rfl
            case hQaz20 => exact fun _ _ _ h => h
            case hyaz20 =>
              refine Or.inl ⟨by rfl, ?_⟩
              intro wS hSw
              go_simp
              try with_reducible rfl
            try simp only [Act.put, List.setIfInBounds_toArray, List.set_cons_zero, List.set_cons_succ]
            refine wpAnyH_take (i := 21) (oi := ?oiaz21) (v := ?vaz21) ?hiaz21 (by kernel_rfl) (by kernel_rfl) (by kernel_rfl) ?hQaz21 ?hyaz21 HS ?restaz21
            case hiaz21 => simp only [List.getElem?_toArray, List.getElem?_cons_succ, List.getElem?_cons_zero]; exact rfl
            case hQaz21 => exact fun _ _ _ h => h
            case hyaz21 =>
              refine Or.inl ⟨by rfl, ?_⟩
              intro wS hSw
              go_simp
              try with_reducible rfl
            try simp only [Act.put, List.setIfInBounds_toArray, List.set_cons_zero, List.set_cons_succ]
            refine wpAnyH_take (i := 22) (oi := ?oiaz22) (v := ?vaz22) ?hiaz22 (by kernel_rfl) (by kernel_rfl) (by kernel_rfl) ?hQaz22 ?hyaz22 HS ?restaz22
            case hiaz22 => simp only [List.getElem?_toArray, List.getElem?_cons_succ, List.getElem?_cons_zero]; exact rfl
            case hQaz22 => exact fun _ _ _ h => h
            case hyaz22 =>
              refine Or.inl ⟨by rfl, ?_⟩
              intro wS hSw
              go_simp
              try with_reducible rfl
            try simp only [Act.put, List.setIfInBounds_toArray, List.set_cons_zero, List.set_cons_succ]
            refine wpAnyH_take (i := 23) (oi := ?oiaz23) (v := ?vaz23) ?hiaz23 (by kernel_rfl) (by kernel_rfl) (by kernel_rfl) ?hQaz23 ?hyaz23 HS ?restaz23
            case hiaz23 => simp only [List.getElem?_toArray, List.getElem?_cons_succ, List.getElem?_cons_zero]; exact rfl
            case hQaz23 => exact fun _ _ _ h => h
            case hyaz23 =>
              refine Or.inl ⟨by rfl, ?_⟩
              intro wS hSw
              have z9 := hSw.2.2.2.1
              go_simp
              try with_reducible rfl
            try simp only [Act.put, List.setIfInBounds_toArray, List.set_cons_zero, List.set_cons_succ]
            refine wpAnyH_take (i := 24) (oi := ?oiaz24) (v := ?vaz24) ?hiaz24 (by kernel_rfl) (by kernel_rfl) (by kernel_rfl) ?hQaz24 ?hyaz24 HS ?restaz24
            case hiaz24 => simp only [List.getElem?_toArray, List.getElem?_cons_succ, List.getElem?_cons_zero]; exact rfl
            case hQaz24 => exact fun _ _ _ h => h
            case hyaz24 =>
              refine Or.inl ⟨by rfl, ?_⟩
              intro wS hSw
              go_simp
              try with_reducible rfl
            try simp only [Act.put, List.setIfInBounds_toArray, List.set_cons_zero, List.set_cons_succ]
            refine wpAnyH_ready (rs := [25]) (by kernel_rfl) (by simp) ?_
            refine AllReadyH.cons (o := ?oaz25) ?hoaz25 (fun K hK => ?stepaz25) AllReadyH.nil
            case hoaz25 => simp only [List.getElem?_toArray, List.getElem?_cons_succ, List.getElem?_cons_zero]; exact rfl
            rw [if_pos (by rfl)]
            go_simp
            refine (cver_c ((ts_t gs gd gv gc 50 L' false).comp (tc_c gd d' gv v')) HS.2.2.2.2).mono ?_
            rintro e wv ⟨rfl, rfl⟩
            refine hK.out _ _ HS (fun HS => ?_)
            clear hK K
            try simp only [Act.put, List.setIfInBounds_toArray, List.set_cons_zero, List.set_cons_succ]
            refine wpAnyH_take (i := 26) (oi := ?oiaz26) (v := ?vaz26) ?hiaz26 (by kernel_rfl) (by kernel_rfl) (by kernel_rfl) ?hQaz26 ?hyaz26 HS ?restaz26
            case hiaz26 => simp only [List.getElem?_toArray, List.getElem?_cons_succ, List.getElem?_cons_zero]; exact rfl
            case hQaz26 => exact fun _ _ _ h => h
            case hyaz26 =>
              refine Or.inl ⟨by rfl, ?_⟩
              intro wS hSw
              go_simp
              try with_reducible rfl
            try simp only [Act.put, List.setIfInBounds_toArray, List.set_cons_zero, List.set_cons_succ]
            refine wpAnyH_take (i := 27) (oi := ?oiaz27) (v := ?vaz27) ?hiaz27 (by kernel_rfl) (by kernel_rfl) (by kernel_rfl) ?hQaz27 ?hyaz27 HS ?restaz27
            case hiaz27 => simp only [List.getElem?_toArray, List.getElem?_cons_succ, List.getElem?_cons_zero]; exact rfl
            case hQaz27 => exact fun _ _ _ h => h
            case hyaz27 =>
              refine Or.inl ⟨by rfl, ?_⟩
              intro wS hSw
              go_simp
              try with_reducible rfl
            try simp only [Act.put, List.setIfInBounds_toArray, List.set_cons_zero, List.set_cons_succ]
            refine wpAnyH_done (by kernel_rfl) ?_ _
            have HQ7 := hid (HQ6.out.go (TS.ok _ _ _ _ _ _ _ _ _ _) ((Below.refl _ _).drew))
            have HR7 : Hid (HRow wq.drew w.heap.size A8 i c8 h8) := hid (World.ownsRow.below HR5.out ((Below.refl _ _).drew))
            have HP7 : Hid (BRow 90 wq.drew w8.heap.size (some ⟨b7, 0, none⟩) k11 L') := hid (World.ownsRow.below HP5.out ((Below.refl _ _).drew))
            clear HS hk0 hk1 hk5 hk9
            go_wp2_with fail
            go_roundg (i - (k + 1))
            case measure => exact meas_jbK hgk2.out HKM.out
            case rel => exact ⟨k + 1, by first | rfl | rw [wk], hid rfl, hid HKM.out, HQ7, HR7, HP7⟩
      · have hkm : k = n8 := by have := hk.out; omega
        subst hkm
        have k2 : ¬ (k : Int) < (k : Int) := fun e => absurd e (Int.lt_irrefl _)
        have HQE : Hid (On w (TS gd d' gv v' gc c' gs 50 L' false) wr (fun b => A8.map (·.block) = some b)) := hid (hQ.out.less fun x hx => .inl hx)
        clear hge2 hk hgk2
        go_wp2_with fail
        go_roundg (n - (j + 1))
        case measure => exact meas_jbK hgk.out HJN.out
        case rel => exact ⟨j + 1, d', v', c', L', A8, k, c8, h8, rfl, by first | rfl | rw [wj], hid rfl, hid HJN.out, HSI8, HHv8, HLN8, hid ⟨HVV.out.1, HVV.out.2.1, HVV.out.2.2.1, HVV.out.2.2.2.1, HVV.out.2.2.2.2, HBD8.out.1, ky_20 HJ20.out⟩, HQE, hR, HHO8⟩
    · have HHv8 : Hid (Hv v' L' (hl.map Hc.ch)) := hid (by have := HCM.out.1.hv; dsimp only at this; rwa [if_neg hE] at this)
      have z1 : (E == 0) = false := beq_eq_false_iff_ne.2 hE
      have z2 : decide (E = 0) = false := decide_eq_false hE
      have HV8 : Hid (On w (TS gd d' gv v' gc c' gs 50 L' false) w6 (fun b => A1.map (·.block) = some b)) := hid (HV6.out.less fun x hx => .inl hx)
      have HBD8 : Hid (n1 ≤ 30 * (j + 1) ∧ n1 ≤ 600) := hid (by have h1 := hbd.out; have h3 := HJ20.out; clear wj; omega)
      have HRW8 := HRW6
      have HLN8 := hln
      have HHO8 := hHO
      clear hE HCM HV6 HRW6 HK6 x0 x1 x2 x3 x4 x5 x6 x7 x8 hHv hln hbd hHO HO HSM HLL HLN
      have HLE : Hid (L'.length = n1) := hid (by rw [HHv8.out.len, List.length_map]; exact HLN8.out)
      have HXY : Hid (∀ x ∈ L', ∃ y ∈ hl, y.nm = x.nm ∧ y.k = x.k ∧ (y.body.length : Int) = x.sz) := hid (ky_found HHv8.out (rise_of HSI8.out.rg))
      go_wp2_with fail
      refine (slist_on (ts_s gd d' gv v' gc c') HV8.out (rise_of HSI8.out.rg) (by have := HSI8.out.rg.2.2; omega) (fun x hx => by have := (HSI8.out.rg.1 x hx).1.2; unfold maxLen; omega)).mono ?_
      rintro e w11 ⟨A11, k11, rfl, hr11, hb11⟩
      have HV11 : Hid (On w (TS gd d' gv v' gc c' gs 50 L' false) w11 (fun b => A1.map (·.block) = some b ∨ A11.map (·.block) = some b)) := hid (On.row HV8.out (TS.ok _ _ _ _ _ _ _ _ _ _) hb11 hr11)
      have HRW11 : Hid (HRow w11 w.heap.size A1 n1 c1 hl) := hid (World.ownsRow.below HRW8.out hb11)
      have HR11 : Hid (BRow 90 w11 w6.heap.size A11 k11 L') := hid hr11
      rw [HLE.out]
      clear hb11 hr11 HV8 HRW8
      go_wp2_with fail
      go_loopg [70] n1 (fun kk iv wr => ∃ k : Nat, iv = .int .i64 (k : Int) ∧ Hid (kk = n1 - k) ∧ Hid (k ≤ n1) ∧ Hid (On w (TS gd d' gv v' gc c' gs 50 L' false) wr (fun b => A1.map (·.block) = some b ∨ A11.map (·.block) = some b)) ∧ Hid (HRow wr w.heap.size A1 n1 c1 hl) ∧ Hid (BRow 90 wr w6.heap.size A11 k11 L'))
      case atStart => exact ⟨0, rfl, hid rfl, hid (Nat.zero_le _), HV11, HRW11, HR11⟩
      case round =>
      obtain ⟨k, rfl, hgk2, hk, hQ, hR, hP⟩ := hrel
      clear HV11 HRW11 HR11
      rename World => wr
      rcases Nat.lt_or_ge k n1 with hlt2 | hge2
      · have HKM := hid hlt2
        have hil : k < L'.length := by rw [HLE.out]; exact hlt2
        have k1 : (0 : Int) ≤ (k : Int) := by omega
        have k2 : (k : Int) < (n1 : Int) := by omega
        have k3 : decide ((k : Int) < (n1 : Int)) = true := by simpa using hlt2
        have k4 : decide (k < n1) = true := decide_eq_true hlt2
        have wk : wrap64 ((k : Int) + 1) = ((k + 1 : Nat) : Int) := ky_wk HBD8.out.2 hlt2
        obtain ⟨b7, hA7, hbl, hr⟩ := hP.out.elem hil
        have HMEM := hid (List.getElem_mem hil)
        generalize L'[k] = x at *
        have HRAW := hid (HSI8.out.raw HMEM.out HVV.out.2.1)
        have HHND := hid (HSI8.out.hand HMEM.out)
        have HPK : Hid (x.p.k = x.k) := hid (HSI8.out.rg.1 x HMEM.out).2.2.1
        have HPV := hid (HSI8.out.pv x HMEM.out)
        have HFND := hid (HXY.out x HMEM.out)
        obtain ⟨c0', c1', c2, c3, c4, c5, c6, c7, c8', c9, c10⟩ := range11 hr
        have HBX := hid (Blk.new wr 90 (#[.string (str x.nm), .int .i64 x.k.t, .int .i64 x.k.c, .int .i64 x.k.e, .int .i64 x.b, .int .i64 x.p.k.t, .int .i64 x.p.k.c, .int .i64 x.p.k.e, .int .i64 x.p.id, .int .i64 x.p.ver, .int .i64 x.sz]))
        have hbx : Below wr.heap.size wr (wr.alloc (.cells (#[.string (str x.nm), .int .i64 x.k.t, .int .i64 x.k.c, .int .i64 x.k.e, .int .i64 x.b, .int .i64 x.p.k.t, .int .i64 x.p.k.c, .int .i64 x.p.k.e, .int .i64 x.p.id, .int .i64 x.p.ver, .int .i64 x.sz]) 90)) := (Below.refl _ _).alloc (Nat.le_refl _) _
        have HQ2 := hid (hQ.out.go (TS.ok _ _ _ _ _ _ _ _ _ _) hbx)
        have HR2 : Hid (HRow (wr.alloc (.cells (#[.string (str x.nm), .int .i64 x.k.t, .int .i64 x.k.c, .int .i64 x.k.e, .int .i64 x.b, .int .i64 x.p.k.t, .int .i64 x.p.k.c, .int .i64 x.p.k.e, .int .i64 x.p.id, .int .i64 x.p.ver, .int .i64 x.sz]) 90)) w.heap.size A1 n1 c1 hl) := hid (World.ownsRow.below hR.out hbx)
        have HP2 : Hid (BRow 90 (wr.alloc (.cells (#[.string (str x.nm), .int .i64 x.k.t, .int .i64 x.k.c, .int .i64 x.k.e, .int .i64 x.b, .int .i64 x.p.k.t, .int .i64 x.p.k.c, .int .i64 x.p.k.e, .int .i64 x.p.id, .int .i64 x.p.ver, .int .i64 x.sz]) 90)) w6.heap.size A11 k11 L') := hid (World.ownsRow.below hP.out hbx)
        have x4 : (wr.alloc (.cells (#[.string (str x.nm), .int .i64 x.k.t, .int .i64 x.k.c, .int .i64 x.k.e, .int .i64 x.b, .int .i64 x.p.k.t, .int .i64 x.p.k.c, .int .i64 x.p.k.e, .int .i64 x.p.id, .int .i64 x.p.ver, .int .i64 x.sz]) 90)).cell? ⟨wr.heap.size, 4, none⟩ = some (.int .i64 x.b) := (HBX.out.cell 4).trans rfl
        subst hA7
        clear hlt2 hil hr hbl hQ hR hP hbx
        go_wp2_with fail
        clear c0' c1' c2 c3 c4 c5 c6 c7 c8' c9 c10
        refine (dread_on ((ts_t gs gd gv gc 50 L' false).comp (tc_d gv v' gc c')) HQ2.out x.b).mono ?_
        rintro e w15 ⟨A15, m15, k15, rfl, ho15, -, hb15⟩
        rw [HRAW.out.1]
        rw [HRAW.out.2] at ho15
        have HQ3 := hid (HQ2.out.go (TS.ok _ _ _ _ _ _ _ _ _ _) hb15)
        have HR3 : Hid (HRow w15 w.heap.size A1 n1 c1 hl) := hid (World.ownsRow.below HR2.out hb15)
        have HP3 : Hid (BRow 90 w15 w6.heap.size _ k11 L') := hid (World.ownsRow.below HP2.out hb15)
        have HBX3 := hid (HBX.out.keep (hb15.block _ HBX.out.lt))
        obtain ⟨i0, i1, i2, hid_, hh0, hh1, hh2, hm15, g15, rfl, y0, y1, y2⟩ := ky_raw ho15 (by have h1 := HHND.out.choose_spec.2.2; have h2 := HVV.out; have h3 := HJ20.out; clear wj wk; omega)
        have HHD := hid hid_
        clear x4 hb15 ho15 HQ2 HR2 HP2 HBX hid_
        have HUN := hid (ky_under HHND.out)
        have HPID : Hid (x.p.id.toNat < 16777216) := hid (by have h1 := HHND.out.choose_spec.2.2; have h2 := HVV.out; have h3 := HJ20.out; clear wj wk; omega)
        go_upto_region 20 with fail
        go_cut [17, 18] from 81 to 101 (fun kv ov wx => ∃ kb : Nat, kv = .pointer (some ⟨kb, 0, none⟩) ∧ ov = .bool true ∧ Hid (Blk wx kb 54 #[.int .i64 x.k.t, .int .i64 x.k.c, .int .i64 x.k.e]) ∧ Hid (On w (TS gd d' gv v' gc c' gs 50 L' false) wx (fun b => A1.map (·.block) = some b ∨ (some (⟨b7, 0, none⟩ : Addr)).map (·.block) = some b)) ∧ Hid (HRow wx w.heap.size A1 n1 c1 hl) ∧ Hid (BRow 90 wx w6.heap.size (some ⟨b7, 0, none⟩) k11 L') ∧ Hid (Blk wx wr.heap.size 90 (#[.string (str x.nm), .int .i64 x.k.t, .int .i64 x.k.c, .int .i64 x.k.e, .int .i64 x.b, .int .i64 x.p.k.t, .int .i64 x.p.k.c, .int .i64 x.p.k.e, .int .i64 x.p.id, .int .i64 x.p.ver, .int .i64 x.sz])))
        case first =>
          obtain ⟨a1, a2, a3, w0, w1', w2', p1, p2, p3, p4⟩ := ky_wrap HHD.out hh0 hh1 hh2
          have hg15 : g15 < w15.heap.size := block_lt y0
          have hm1 : (0 : Int) < (m15 : Int) := by omega
          have hm2 : (1 : Int) < (m15 : Int) := by omega
          have hm3 : (2 : Int) < (m15 : Int) := by omega
          have hm4 : 0 < m15 := by omega
          have hm5 : 1 < m15 := by omega
          have hm6 : 2 < m15 := by omega
          generalize x.p.id.toNat = hd at *
          clear hh0 hh1 hh2 hm15
          refine wp_region_held_drew (S := fun wx => Below w15.heap.size w15 wx) (by kernel_rfl) ((Below.refl _ _).drew) (fun HS => ?_)
          refine wpAnyH_take (i := 0) (oi := ?oib0) (v := ?vb0) ?hib0 (by kernel_rfl) (by kernel_rfl) (by kernel_rfl) ?hQb0 ?hyb0 HS ?restb0
          case hib0 => simp only [List.getElem?_toArray, List.getElem?_cons_zero]; exact rfl
          case hQb0 => exact fun _ _ _ h => h
          case hyb0 =>
            refine Or.inl ⟨by rfl, ?_⟩
            intro wS hSw
            go_simp
            try with_reducible rfl
          try simp only [Act.put, List.setIfInBounds_toArray, List.set_cons_zero, List.set_cons_succ]
          refine wpAnyH_take (i := 1) (oi := ?oib1) (v := ?vb1) ?hib1 (by kernel_rfl) (by kernel_rfl) (by kernel_rfl) ?hQb1 ?hyb1 HS ?restb1
          case hib1 => simp only [List.getElem?_toArray, List.getElem?_cons_succ, List.getElem?_cons_zero]; exact rfl
          case hQb1 => exact fun _ _ _ h => h
          case hyb1 =>
            refine Or.inl ⟨by rfl, ?_⟩
            intro wS hSw
            go_simp
            try with_reducible rfl
          try simp only [Act.put, List.setIfInBounds_toArray, List.set_cons_zero, List.set_cons_succ]
          refine wpAnyH_take (i := 2) (oi := ?oib2) (v := ?vb2) ?hib2 (by kernel_rfl) (by kernel_rfl) (by kernel_rfl) ?hQb2 ?hyb2 HS ?restb2
          case hib2 => simp only [List.getElem?_toArray, List.getElem?_cons_succ, List.getElem?_cons_zero]; exact rfl
          case hQb2 => exact fun _ _ _ h => h
          case hyb2 =>
            refine Or.inl ⟨by rfl, ?_⟩
            intro wS hSw
            go_simp
            try with_reducible rfl
          try simp only [Act.put, List.setIfInBounds_toArray, List.set_cons_zero, List.set_cons_succ]
          refine wpAnyH_take (i := 3) (oi := ?oib3) (v := ?vb3) ?hib3 (by kernel_rfl) (by kernel_rfl) (by kernel_rfl) ?hQb3 ?hyb3 HS ?restb3
          case hib3 => simp only [List.getElem?_toArray, List.getElem?_cons_succ, List.getElem?_cons_zero]; exact rfl
          case hQb3 => exact fun _ _ _ h => h
          case hyb3 =>
            refine Or.inl ⟨by rfl, ?_⟩
            intro wS hSw
            have z0 := (World.cell?_of_block (hSw.block g15 hg15)).trans y0
            have z1 := (World.cell?_of_block (hSw.block g15 hg15)).trans y1
            have z2 := (World.cell?_of_block (hSw.block g15 hg15)).trans y2
            go_simp
            try with_reducible rfl
          try simp only [Act.put, List.setIfInBounds_toArray, List.set_cons_zero, List.set_cons_succ]
          refine wpAnyH_take (i := 4) (oi := ?oib4) (v := ?vb4) ?hib4 (by kernel_rfl) (by kernel_rfl) (by kernel_rfl) ?hQb4 ?hyb4 HS ?restb4
          case hib4 => simp only [List.getElem?_toArray, List.getElem?_cons_succ, List.getElem?_cons_zero]; exact rfl
          case hQb4 => exact fun _ _ _ h => h
          case hyb4 =>
            refine Or.inl ⟨by rfl, ?_⟩
            intro wS hSw
            go_simp
            try with_reducible rfl
          try simp only [Act.put, List.setIfInBounds_toArray, List.set_cons_zero, List.set_cons_succ]
          refine wpAnyH_take (i := 5) (oi := ?oib5) (v := ?vb5) ?hib5 (by kernel_rfl) (by kernel_rfl) (by kernel_rfl) ?hQb5 ?hyb5 HS ?restb5
          case hib5 => simp only [List.getElem?_toArray, List.getElem?_cons_succ, List.getElem?_cons_zero]; exact rfl
          case hQb5 => exact fun _ _ _ h => h
          case hyb5 =>
            refine Or.inl ⟨by rfl, ?_⟩
            intro wS hSw
            go_simp
            try with_reducible rfl
          try simp only [Act.put, List.setIfInBounds_toArray, List.set_cons_zero, List.set_cons_succ]
          refine wpAnyH_take (i := 6) (oi := ?oib6) (v := ?vb6) ?hib6 (by kernel_rfl) (by kernel_rfl) (by kernel_rfl) ?hQb6 ?hyb6 HS ?restb6
          case hib6 => simp only [List.getElem?_toArray, List.getElem?_cons_succ, List.getElem?_cons_zero]; exact rfl
          case hQb6 => exact fun _ _ _ h => h
          case hyb6 =>
            refine Or.inl ⟨by rfl, ?_⟩
            intro wS hSw
            go_simp
            try with_reducible rfl
          try simp only [Act.put, List.setIfInBounds_toArray, List.set_cons_zero, List.set_cons_succ]
          refine wpAnyH_take (i := 7) (oi := ?oib7) (v := ?vb7) ?hib7 (by kernel_rfl) (by kernel_rfl) (by kernel_rfl) ?hQb7 ?hyb7 HS ?restb7
          case hib7 => simp only [List.getElem?_toArray, List.getElem?_cons_succ, List.getElem?_cons_zero]; exact rfl
          case hQb7 => exact fun _ _ _ h => h
          case hyb7 =>
            refine Or.inl ⟨by rfl, ?_⟩
            intro wS hSw
            have z0 := (World.cell?_of_block (hSw.block g15 hg15)).trans y0
            have z1 := (World.cell?_of_block (hSw.block g15 hg15)).trans y1
            have z2 := (World.cell?_of_block (hSw.block g15 hg15)).trans y2
            go_simp
            try with_reducible rfl
          try simp only [Act.put, List.setIfInBounds_toArray, List.set_cons_zero, List.set_cons_succ]
          refine wpAnyH_take (i := 8) (oi := ?oib8) (v := ?vb8) ?hib8 (by kernel_rfl) (by kernel_rfl) (by kernel_rfl) ?hQb8 ?hyb8 HS ?restb8
          case hib8 => simp only [List.getElem?_toArray, List.getElem?_cons_succ, List.getElem?_cons_zero]; exact rfl
          case hQb8 => exact fun _ _ _ h => h
          case hyb8 =>
            refine Or.inl ⟨by rfl, ?_⟩
            intro wS hSw
            go_simp
            try with_reducible rfl
          try simp only [Act.put, List.setIfInBounds_toArray, List.set_cons_zero, List.set_cons_succ]
          refine wpAnyH_take (i := 9) (oi := ?oib9) (v := ?vb9) ?hib9 (by kernel_rfl) (by kernel_rfl) (by kernel_rfl) ?hQb9 ?hyb9 HS ?restb9
          case hib9 => simp only [List.getElem?_toArray, List.getElem?_cons_succ, List.getElem?_cons_zero]; exact rfl
          case hQb9 => exact fun _ _ _ h => h
          case hyb9 =>
            refine Or.inl ⟨by rfl, ?_⟩
            intro wS hSw
            go_simp
            try with_reducible rfl
          try simp only [Act.put, List.setIfInBounds_toArray, List.set_cons_zero, List.set_cons_succ]
          refine wpAnyH_take (i := 10) (oi := ?oib10) (v := ?vb10) ?hib10 (by kernel_rfl) (by kernel_rfl) (by kernel_rfl) ?hQb10 ?hyb10 HS ?restb10
          case hib10 => simp only [List.getElem?_toArray, List.getElem?_cons_succ, List.getElem?_cons_zero]; exact rfl
          case hQb10 => exact fun _ _ _ h => h
          case hyb10 =>
            refine Or.inl ⟨by rfl, ?_⟩
            intro wS hSw
            go_simp
            try with_reducible rfl
          try simp only [Act.put, List.setIfInBounds_toArray, List.set_cons_zero, List.set_cons_succ]
          refine wpAnyH_take (i := 11) (oi := ?oib11) (v := ?vb11) ?hib11 (by kernel_rfl) (by kernel_rfl) (by kernel_rfl) ?hQb11 ?hyb11 HS ?restb11
          case hib11 => simp only [List.getElem?_toArray, List.getElem?_cons_succ, List.getElem?_cons_zero]; exact rfl
          case hQb11 => exact fun _ _ _ h => h
          case hyb11 =>
            refine Or.inl ⟨by rfl, ?_⟩
            intro wS hSw
            go_simp
            try with_reducible rfl
          try simp only [Act.put, List.setIfInBounds_toArray, List.set_cons_zero, List.set_cons_succ]
          refine wpAnyH_take (i := 12) (oi := ?oib12) (v := ?vb12) ?hib12 (by kernel_rfl) (by kernel_rfl) (by kernel_rfl) ?hQb12 ?hyb12 HS ?restb12
          case hib12 => simp only [List.getElem?_toArray, List.getElem?_cons_succ, List.getElem?_cons_zero]; exact rfl
          case hQb12 => exact fun _ _ _ h => h
          case hyb12 =>
            refine Or.inl ⟨by rfl, ?_⟩
            intro wS hSw
            go_simp
            try with_reducible rfl
          try simp only [Act.put, List.setIfInBounds_toArray, List.set_cons_zero, List.set_cons_succ]
          refine wpAnyH_take (i := 13) (oi := ?oib13) (v := ?vb13) ?hib13 (by kernel_rfl) (by kernel_rfl) (by kernel_rfl) ?hQb13 ?hyb13 HS ?restb13
          case hib13 => simp only [List.getElem?_toArray, List.getElem?_cons_succ, List.getElem?_cons_zero]; exact rfl
          case hQb13 => exact fun _ _ _ h => h
          case hyb13 =>
            refine Or.inl ⟨by rfl, ?_⟩
            intro wS hSw
            have z0 := (World.cell?_of_block (hSw.block g15 hg15)).trans y0
            have z1 := (World.cell?_of_block (hSw.block g15 hg15)).trans y1
            have z2 := (World.cell?_of_block (hSw.block g15 hg15)).trans y2
            go_simp
            try with_reducible rfl
          try simp only [Act.put, List.setIfInBounds_toArray, List.set_cons_zero, List.set_cons_succ]
          refine wpAnyH_take (i := 14) (oi := ?oib14) (v := ?vb14) ?hib14 (by kernel_rfl) (by kernel_rfl) (by kernel_rfl) ?hQb14 ?hyb14 HS ?restb14
          case hib14 => simp only [List.getElem?_toArray, List.getElem?_cons_succ, List.getElem?_cons_zero]; exact rfl
          case hQb14 => exact fun _ _ _ h => h
          case hyb14 =>
            refine Or.inl ⟨by rfl, ?_⟩
            intro wS hSw
            go_simp
            try with_reducible rfl
          try simp only [Act.put, List.setIfInBounds_toArray, List.set_cons_zero, List.set_cons_succ]
          refine wpAnyH_take (i := 15) (oi := ?oib15) (v := ?vb15) ?hib15 (by kernel_rfl) (by kernel_rfl) (by kernel_rfl) ?hQb15 ?hyb15 HS ?restb15
          case hib15 => simp only [List.getElem?_toArray, List.getElem?_cons_succ, List.getElem?_cons_zero]; exact rfl
          case hQb15 => exact fun _ _ _ h => h
          case hyb15 =>
            refine Or.inl ⟨by rfl, ?_⟩
            intro wS hSw
            go_simp
            try with_reducible rfl
          try simp only [Act.put, List.setIfInBounds_toArray, List.set_cons_zero, List.set_cons_succ]
          refine wpAnyH_take (i := 16) (oi := ?oib16) (v := ?vb16) ?hib16 (by kernel_rfl) (by kernel_rfl) (by kernel_rfl) ?hQb16 ?hyb16 HS ?restb16
          case hib16 => simp only [List.getElem?_toArray, List.getElem?_cons_succ, List.getElem?_cons_zero]; exact rfl
          case hQb16 => exact fun _ _ _ h => h
          case hyb16 =>
            refine Or.inl ⟨by rfl, ?_⟩
            intro wS hSw
            go_simp
            try with_reducible rfl
          try simp only [Act.put, List.setIfInBounds_toArray, List.set_cons_zero, List.set_cons_succ]
          refine wpAnyH_ready (rs := [17, 21]) (by kernel_rfl) (by simp) ?_
          refine (AllReadyH.cons (o := ?ob17) ?hob17 (fun K hK => ?stepb17) (AllReadyH.cons (o := ?ob21) ?hob21 (fun K hK => ?stepb21) AllReadyH.nil))
          case hob17 => simp only [List.getElem?_toArray, List.getElem?_cons_succ, List.getElem?_cons_zero]; exact rfl
          case hob21 => simp only [List.getElem?_toArray, List.getElem?_cons_succ, List.getElem?_cons_zero]; exact rfl
          case stepb17 =>
            go_simp
            refine (vunder_on ((ts_t gs gd gv gc 50 L' false).comp (tc_v gd d' gc c')) (HQ3.out.go (TS.ok _ _ _ _ _ _ _ _ _ _) HS) hd (Nat.lt_trans HPID.out (by decide))).mono ?_
            rintro e w16 ⟨rfl, hb16⟩
            rw [HUN.out.1, HUN.out.2]
            have HB16 : Hid (Below w15.heap.size w15 w16) := hid (HS.trans (hb16.mono HS.size))
            clear hb16
            refine hK.out _ _ HB16.out (fun HS => ?_)
            clear hK K
            try simp only [Act.put, List.setIfInBounds_toArray, List.set_cons_zero, List.set_cons_succ]
            refine wpAnyH_take (i := 18) (oi := ?oibm18) (v := ?vbm18) ?hibm18 (by kernel_rfl) (by kernel_rfl) (by kernel_rfl) ?hQbm18 ?hybm18 HS ?restbm18
            case hibm18 => simp only [List.getElem?_toArray, List.getElem?_cons_succ, List.getElem?_cons_zero]; exact rfl
            case hQbm18 => exact fun _ _ _ h => h
            case hybm18 =>
              refine Or.inl ⟨by rfl, ?_⟩
              intro wS hSw
              go_simp
              try with_reducible rfl
            try simp only [Act.put, List.setIfInBounds_toArray, List.set_cons_zero, List.set_cons_succ]
            refine wpAnyH_take (i := 19) (oi := ?oibm19) (v := ?vbm19) ?hibm19 (by kernel_rfl) (by kernel_rfl) (by kernel_rfl) ?hQbm19 ?hybm19 HS ?restbm19
            case hibm19 => simp only [List.getElem?_toArray, List.getElem?_cons_succ, List.getElem?_cons_zero]; exact rfl
            case hQbm19 => exact fun _ _ _ h => h
            case hybm19 =>
              refine Or.inl ⟨by rfl, ?_⟩
              intro wS hSw
              go_simp
              try with_reducible rfl
            try simp only [Act.put, List.setIfInBounds_toArray, List.set_cons_zero, List.set_cons_succ]
            refine wpAnyH_take (i := 20) (oi := ?oibm20) (v := ?vbm20) ?hibm20 (by kernel_rfl) (by kernel_rfl) (by kernel_rfl) ?hQbm20 ?hybm20 HS ?restbm20
            case hibm20 => simp only [List.getElem?_toArray, List.getElem?_cons_succ, List.getElem?_cons_zero]; exact rfl
            case hQbm20 => exact fun _ _ _ h => h
            case hybm20 =>
              refine Or.inl ⟨by rfl, ?_⟩
              intro wS hSw
              go_simp
              try with_reducible rfl
            try simp only [Act.put, List.setIfInBounds_toArray, List.set_cons_zero, List.set_cons_succ]
            refine wpAnyH_ready (rs := [21]) (by kernel_rfl) (by simp) ?_
            refine AllReadyH.cons (o := ?obm21) ?hobm21 (fun K hK => ?stepbm21) AllReadyH.nil
            case hobm21 => simp only [List.getElem?_toArray, List.getElem?_cons_succ, List.getElem?_cons_zero]; exact rfl
            go_simp
            refine hK.out _ _ (HB16.out.alloc HB16.out.size _) (fun HS => ?_)
            clear hK K
            try simp only [Act.put, List.setIfInBounds_toArray, List.set_cons_zero, List.set_cons_succ]
            refine wpAnyH_ready (rs := [22]) (by kernel_rfl) (by simp) ?_
            refine AllReadyH.cons (o := ?obm22) ?hobm22 (fun K hK => ?stepbm22) AllReadyH.nil
            case hobm22 => simp only [List.getElem?_toArray, List.getElem?_cons_succ, List.getElem?_cons_zero]; exact rfl
            go_simp
            refine hK.out _ _ (HB16.out.alloc HB16.out.size _) (fun HS => ?_)
            clear hK K
            try simp only [Act.put]
            refine wpAnyH_take (i := 23) (oi := ?oibm23) (v := ?vbm23) ?hibm23 (by kernel_rfl) (by kernel_rfl) (by kernel_rfl) ?hQbm23 ?hybm23 HS ?restbm23
            case hibm23 => simp only [List.getElem?_toArray, List.getElem?_cons_succ, List.getElem?_cons_zero]; exact rfl
            case hQbm23 => exact fun _ _ _ h => h
            case hybm23 =>
              refine Or.inl ⟨by rfl, ?_⟩
              intro wS hSw
              go_simp
              try with_reducible rfl
            try simp only [Act.put, List.setIfInBounds_toArray, List.set_cons_zero, List.set_cons_succ]
            refine wpAnyH_done (by kernel_rfl) ?_ _
            have hbz : Below w15.heap.size w15 (w16.alloc (.cells #[.int .i64 x.k.t, .int .i64 x.k.c, .int .i64 x.k.e] 54)) := HB16.out.alloc HB16.out.size _
            clear HS
            go_wp2_with fail
            go_meet
            case rel => exact ⟨_, rfl, rfl, hid (Blk.new _ _ _), hid (HQ3.out.go (TS.ok _ _ _ _ _ _ _ _ _ _) hbz), hid (World.ownsRow.below HR3.out hbz), hid (World.ownsRow.below HP3.out hbz), hid (HBX3.out.keep (hbz.block _ HBX3.out.lt))⟩
          case stepb21 =>
            go_simp
            refine hK.out _ _ ((Below.refl _ _).drew.alloc (Nat.le_refl _) _) (fun HS => ?_)
            clear hK K
            try simp only [Act.put, List.setIfInBounds_toArray, List.set_cons_zero, List.set_cons_succ]
            refine wpAnyH_ready (rs := [17]) (by kernel_rfl) (by simp) ?_
            refine AllReadyH.cons (o := ?obn17) ?hobn17 (fun K hK => ?stepbn17) AllReadyH.nil
            case hobn17 => simp only [List.getElem?_toArray, List.getElem?_cons_succ, List.getElem?_cons_zero]; exact rfl
            go_simp
            refine (vunder_on ((ts_t gs gd gv gc 50 L' false).comp (tc_v gd d' gc c')) (HQ3.out.go (TS.ok _ _ _ _ _ _ _ _ _ _) HS) hd (Nat.lt_trans HPID.out (by decide))).mono ?_
            rintro e w17 ⟨rfl, hb16⟩
            rw [HUN.out.1, HUN.out.2]
            have HB16 : Hid (Below w15.heap.size w15 w17) := hid (HS.trans (hb16.mono HS.size))
            have HK17 : Hid (Blk w17 w15.drew.heap.size 54 #[.int .i64 0, .int .i64 0, .int .i64 0]) := hid ((Blk.new w15.drew 54 #[.int .i64 0, .int .i64 0, .int .i64 0]).keep (hb16.block _ (by simp)))
            clear hb16
            refine hK.out _ _ HB16.out (fun HS => ?_)
            clear hK K
            try simp only [Act.put, List.setIfInBounds_toArray, List.set_cons_zero, List.set_cons_succ]
            refine wpAnyH_take (i := 18) (oi := ?oibn18) (v := ?vbn18) ?hibn18 (by kernel_rfl) (by kernel_rfl) (by kernel_rfl) ?hQbn18 ?hybn18 HS ?restbn18
            case hibn18 => simp only [List.getElem?_toArray, List.getElem?_cons_succ, List.getElem?_cons_zero]; exact rfl
            case hQbn18 => exact fun _ _ _ h => h
            case hybn18 =>
              refine Or.inl ⟨by rfl, ?_⟩
              intro wS hSw
              go_simp
              try with_reducible rfl
            try simp only [Act.put, List.setIfInBounds_toArray, List.set_cons_zero, List.set_cons_succ]
            refine wpAnyH_take (i := 19) (oi := ?oibn19) (v := ?vbn19) ?hibn19 (by kernel_rfl) (by kernel_rfl) (by kernel_rfl) ?hQbn19 ?hybn19 HS ?restbn19
            case hibn19 => simp only [List.getElem?_toArray, List.getElem?_cons_succ, List.getElem?_cons_zero]; exact rfl
            case hQbn19 => exact fun _ _ _ h => h
            case hybn19 =>
              refine Or.inl ⟨by rfl, ?_⟩
              intro wS hSw
              go_simp
              try with_reducible rfl
            try simp only [Act.put, List.setIfInBounds_toArray, List.set_cons_zero, List.set_cons_succ]
            refine wpAnyH_take (i := 20) (oi := ?oibn20) (v := ?vbn20) ?hibn20 (by kernel_rfl) (by kernel_rfl) (by kernel_rfl) ?hQbn20 ?hybn20 HS ?restbn20
            case hibn20 => simp only [List.getElem?_toArray, List.getElem?_cons_succ, List.getElem?_cons_zero]; exact rfl
            case hQbn20 => exact fun _ _ _ h => h
            case hybn20 =>
              refine Or.inl ⟨by rfl, ?_⟩
              intro wS hSw
              go_simp
              try with_reducible rfl
            try simp only [Act.put, List.setIfInBounds_toArray, List.set_cons_zero, List.set_cons_succ]
            refine wpAnyH_ready (rs := [22]) (by kernel_rfl) (by simp) ?_
            refine AllReadyH.cons (o := ?obn22) ?hobn22 (fun K hK => ?stepbn22) AllReadyH.nil
            case hobn22 => simp only [List.getElem?_toArray, List.getElem?_cons_succ, List.getElem?_cons_zero]; exact rfl
            refine wp_storeK _ _ rfl HK17.out rfl rfl x.k rfl ?_
            intro w18 hk18 hg18
            have HB18 : Hid (Below w15.heap.size w15 w18) := hid (HB16.out.grown hg18 HB16.out.size (fun k hk => by injection hk with hk; exact Nat.le_of_eq hk))
            have HK18 := hid hk18
            clear hk18 hg18
            refine hK.out _ _ HB18.out (fun HS => ?_)
            clear hK K
            try simp only [Act.put]
            refine wpAnyH_take (i := 23) (oi := ?oibn23) (v := ?vbn23) ?hibn23 (by kernel_rfl) (by kernel_rfl) (by kernel_rfl) ?hQbn23 ?hybn23 HS ?restbn23
            case hibn23 => simp only [List.getElem?_toArray, List.getElem?_cons_succ, List.getElem?_cons_zero]; exact rfl
            case hQbn23 => exact fun _ _ _ h => h
            case hybn23 =>
              refine Or.inl ⟨by rfl, ?_⟩
              intro wS hSw
              go_simp
              try with_reducible rfl
            try simp only [Act.put, List.setIfInBounds_toArray, List.set_cons_zero, List.set_cons_succ]
            refine wpAnyH_done (by kernel_rfl) ?_ _
            have hbz : Below w15.heap.size w15 w18 := HB18.out
            clear HS
            go_wp2_with fail
            go_meet
            case rel => exact ⟨_, rfl, rfl, HK18, hid (HQ3.out.go (TS.ok _ _ _ _ _ _ _ _ _ _) hbz), hid (World.ownsRow.below HR3.out hbz), hid (World.ownsRow.below HP3.out hbz), hid (HBX3.out.keep (hbz.block _ HBX3.out.lt))⟩
        case rest =>
          obtain ⟨kb, rfl, rfl, HKB4, HQ4, HR4, HP4, HBX4⟩ := hcut
          clear HQ3 HR3 HP3 HBX3 y0 y1 y2 HHD HRAW HHND HUN
          rename World => wc
          go_wp2_with fail
          go_loopg [19, 104] n1 (fun k3 fv iv wq => ∃ i : Nat, fv = .bool ((hl.take i).any (kyP x)) ∧ iv = .int .i64 (i : Int) ∧ Hid (k3 = n1 - i) ∧ Hid (i ≤ n1) ∧ Hid (Below wc.heap.size wc wq))
          case atStart => exact ⟨0, rfl, rfl, hid rfl, hid (Nat.zero_le _), hid (Below.refl _ _)⟩
          case round =>
          obtain ⟨i, rfl, rfl, hgk3, hi, hBQ⟩ := hrel
          rename World => wq
          rcases Nat.lt_or_ge i n1 with hlt3 | hge3
          · have HIN := hid hlt3
            have hih : i < (hl).length := by rw [HLN8.out]; exact hlt3
            have i1 : (0 : Int) ≤ (i : Int) := Int.natCast_nonneg i
            have i2 : (i : Int) < (n1 : Int) := Int.ofNat_lt.2 hlt3
            have i3 : decide ((i : Int) < (n1 : Int)) = true := decide_eq_true i2
            have i4 : decide (i < n1) = true := decide_eq_true hlt3
            have wi : wrap64 ((i : Int) + 1) = ((i + 1 : Nat) : Int) := ky_wk HBD8.out.2 hlt3
            have HANY := hid (ky_any (x := x) hih)
            have HYO := hid (HHO8.out _ (List.getElem_mem hih))
            have hrq : HRow wq w.heap.size A1 n1 c1 hl := World.ownsRow.below HR4.out hBQ.out
            obtain ⟨b9, hA9, hbl9, hr9⟩ := hrq.elem HLN8.out hih
            generalize (hl)[i] = y at *
            generalize (List.take i (hl)).any (kyP x) = f at *
            obtain ⟨c0', c1', c2, c3, c4, c5⟩ := range6 hr9
            have HKY := hid (Blk.new wq 94 #[.string (str (y).nm), .int .i64 (y).k.t, .int .i64 (y).k.c, .int .i64 (y).k.e, .slice (y).A (y).n (y).c, .bool (y).dr])
            obtain ⟨u0, u1, u2', u3, u4', u5'⟩ := hcB_cells (x := y) HKY.out
            have hby : Below wq.heap.size wq (wq.alloc (.cells #[.string (str (y).nm), .int .i64 (y).k.t, .int .i64 (y).k.c, .int .i64 (y).k.e, .slice (y).A (y).n (y).c, .bool (y).dr] 94)) := (Below.refl _ _).alloc (Nat.le_refl _) _
            have HB9 : Hid (Below wc.heap.size wc (wq.alloc (.cells #[.string (str (y).nm), .int .i64 (y).k.t, .int .i64 (y).k.c, .int .i64 (y).k.e, .slice (y).A (y).n (y).c, .bool (y).dr] 94))) := hid (hBQ.out.trans (hby.mono hBQ.out.size))
            have HBX9 := hid (HBX4.out.keep (HB9.out.block _ HBX4.out.lt))
            have v0 : (wq.alloc (.cells #[.string (str (y).nm), .int .i64 (y).k.t, .int .i64 (y).k.c, .int .i64 (y).k.e, .slice (y).A (y).n (y).c, .bool (y).dr] 94)).cell? ⟨wr.heap.size, 0, none⟩ = some (.string (str x.nm)) := (HBX9.out.cell 0).trans rfl
            have v1 : (wq.alloc (.cells #[.string (str (y).nm), .int .i64 (y).k.t, .int .i64 (y).k.c, .int .i64 (y).k.e, .slice (y).A (y).n (y).c, .bool (y).dr] 94)).cell? ⟨wr.heap.size, 1, none⟩ = some (.int .i64 x.k.t) := (HBX9.out.cell 1).trans rfl
            have v2 : (wq.alloc (.cells #[.string (str (y).nm), .int .i64 (y).k.t, .int .i64 (y).k.c, .int .i64 (y).k.e, .slice (y).A (y).n (y).c, .bool (y).dr] 94)).cell? ⟨wr.heap.size, 2, none⟩ = some (.int .i64 x.k.c) := (HBX9.out.cell 2).trans rfl
            have v3 : (wq.alloc (.cells #[.string (str (y).nm), .int .i64 (y).k.t, .int .i64 (y).k.c, .int .i64 (y).k.e, .slice (y).A (y).n (y).c, .bool (y).dr] 94)).cell? ⟨wr.heap.size, 3, none⟩ = some (.int .i64 x.k.e) := (HBX9.out.cell 3).trans rfl
            have v10 : (wq.alloc (.cells #[.string (str (y).nm), .int .i64 (y).k.t, .int .i64 (y).k.c, .int .i64 (y).k.e, .slice (y).A (y).n (y).c, .bool (y).dr] 94)).cell? ⟨wr.heap.size, 10, none⟩ = some (.int .i64 x.sz) := (HBX9.out.cell 10).trans rfl
            have s1 := str_list y.nm
            have s2 := str_list x.nm
            obtain ⟨q, hq⟩ : ∃ q, q = decide (y.k = x.k) := ⟨_, rfl⟩
            have heq : ∀ wx : World, (Op.equalIn 10000 54 (.agg #[.int .i64 y.k.t, .int .i64 y.k.c, .int .i64 y.k.e]) (.agg #[.int .i64 x.k.t, .int .i64 x.k.c, .int .i64 x.k.e])).run Tryz.prog wx = .ok q wx := fun wx => by rw [hq]; exact eq_keyd y.k x.k wx
            have HQK := hid hq
            have HRN : Hid (n1 - (i + 1) < n1 - i) := hid (meas_jbK rfl hlt3)
            rw [hA9]
            have HA9 := hid hA9
            clear hq hlt3 hih hbl9 hr9 hby hA9 hrq
            by_cases hf : f = true
            · subst hf
              go_wp2_with fail
              rw [← HA9.out]
              go_roundg (n1 - (i + 1))
              case measure => rw [hgk3.out]; exact HRN.out
              case rel => exact ⟨i + 1, congrArg Value.bool (by rw [HANY.out]; rfl), by first | rfl | rw [wi], hid rfl, hid HIN.out, HB9⟩
            have hf0 : f = false := by simpa using hf
            subst hf0
            clear hf
            by_cases hn : y.nm = x.nm
            · have d1 : (y.nm == x.nm) = true := by rw [hn]; exact beq_self_eq_true _
              have d2 : ((str y.nm).toList == (str x.nm).toList) = true := by rw [hn]; exact beq_self_eq_true _
              have HNM := hid hn
              clear hn
              cases q with
              | false =>
                have HV0 : Hid (kyP x y = false) := hid (decide_eq_false fun e => absurd e.2.1 (of_decide_eq_false HQK.out.symm))
                go_wp2_with fail
                rw [← HA9.out]
                go_roundg (n1 - (i + 1))
                case measure => rw [hgk3.out]; exact HRN.out
                case rel => exact ⟨i + 1, congrArg Value.bool (by rw [HANY.out, HV0.out]; rfl), by first | rfl | rw [wi], hid rfl, hid HIN.out, HB9⟩
              | true =>
                by_cases hz : (y.n : Int) = x.sz
                · have HV1 : Hid (kyP x y = true) := hid (decide_eq_true ⟨HNM.out, of_decide_eq_true HQK.out.symm, hz⟩)
                  rw [← hz] at v10
                  clear hz
                  go_wp2_with fail
                  rw [← HA9.out]
                  go_roundg (n1 - (i + 1))
                  case measure => rw [hgk3.out]; exact HRN.out
                  case rel => exact ⟨i + 1, congrArg Value.bool (by rw [HANY.out, HV1.out]; rfl), by first | rfl | rw [wi], hid rfl, hid HIN.out, HB9⟩
                · have HV1 : Hid (kyP x y = false) := hid (decide_eq_false fun e => hz e.2.2)
                  have z5 : ((y.n : Int) == x.sz) = false := beq_eq_false_iff_ne.2 hz
                  go_wp2_with fail
                  rw [← HA9.out]
                  go_roundg (n1 - (i + 1))
                  case measure => rw [hgk3.out]; exact HRN.out
                  case rel => exact ⟨i + 1, congrArg Value.bool (by rw [HANY.out, HV1.out]; rfl), by first | rfl | rw [wi], hid rfl, hid HIN.out, HB9⟩
            · have d1 : (y.nm == x.nm) = false := beq_eq_false_iff_ne.2 hn
              have d2 : ((str y.nm).toList == (str x.nm).toList) = false := str_ne hn
              have HV0 : Hid (kyP x y = false) := hid (decide_eq_false fun e => hn e.1)
              go_wp2_with fail
              rw [← HA9.out]
              go_roundg (n1 - (i + 1))
              case measure => rw [hgk3.out]; exact HRN.out
              case rel => exact ⟨i + 1, congrArg Value.bool (by rw [HANY.out, HV0.out]; rfl), by first | rfl | rw [wi], hid rfl, hid HIN.out, HB9⟩
          · have hin : i = n1 := by have := hi.out; omega
            subst hin
            have i2 : ¬ (i : Int) < (i : Int) := fun e => absurd e (Int.lt_irrefl _)
            have HANY : Hid (((hl).take i).any (kyP x) = true) := hid (by
              obtain ⟨y, hy, e1, e2, e3⟩ := HFND.out
              rw [List.take_of_length_le (Nat.le_of_eq HLN8.out)]
              refine List.any_eq_true.2 ⟨y, hy, decide_eq_true ⟨e1, e2, ?_⟩⟩
              rw [← e3, (HHO8.out y hy).b.len])
            rw [HANY.out]
            have HQ5 : Hid (On w (TS gd d' gv v' gc c' gs 50 L' false) wq (fun b => A1.map (·.block) = some b ∨ (some (⟨b7, 0, none⟩ : Addr)).map (·.block) = some b)) := hid (HQ4.out.go (TS.ok _ _ _ _ _ _ _ _ _ _) hBQ.out)
            have HR5 : Hid (HRow wq w.heap.size A1 i c1 hl) := hid (World.ownsRow.below HR4.out hBQ.out)
            have HP5 : Hid (BRow 90 wq w6.heap.size (some ⟨b7, 0, none⟩) k11 L') := hid (World.ownsRow.below HP4.out hBQ.out)
            have hkb := HKB4.out.keep (hBQ.out.block _ HKB4.out.lt)
            have hbx := HBX4.out.keep (hBQ.out.block _ HBX4.out.lt)
            have hk0 := rangeK (k := x.k) (off := 0) ((hkb.cell 0).trans rfl) ((hkb.cell 1).trans rfl) ((hkb.cell 2).trans rfl)
            have hk1 := rangeK (k := x.k) (off := 1) ((hbx.cell 1).trans rfl) ((hbx.cell 2).trans rfl) ((hbx.cell 3).trans rfl)
            have hk5 := rangeK (k := x.p.k) (off := 5) ((hbx.cell 5).trans rfl) ((hbx.cell 6).trans rfl) ((hbx.cell 7).trans rfl)
            have hk9 : wq.cell? ⟨wr.heap.size, 9, none⟩ = some (.int .i64 x.p.ver) := (hbx.cell 9).trans rfl
            have HEK : Hid (∀ wx : World, (Op.equalIn 10000 54 (.agg #[.int .i64 x.k.t, .int .i64 x.k.c, .int .i64 x.k.e]) (.agg #[.int .i64 x.k.t, .int .i64 x.k.c, .int .i64 x.k.e])).run Tryz.prog wx = .ok true wx) := hid (fun wx => by rw [eq_keyd, decide_eq_true rfl])
            have HEP : Hid (∀ wx : World, (Op.equalIn 10000 54 (.agg #[.int .i64 x.p.k.t, .int .i64 x.p.k.c, .int .i64 x.p.k.e]) (.agg #[.int .i64 x.k.t, .int .i64 x.k.c, .int .i64 x.k.e])).run Tryz.prog wx = .ok true wx) := hid (fun wx => by rw [eq_keyd, decide_eq_true HPK.out])
            have p9 : decide ((c'.ver : Int) < x.p.ver) = false := decide_eq_false (Int.not_lt.2 HPV.out)
            clear hge3 hi hgk3 HKB4 HQ4 HR4 HP4 HBX4 hkb hbx hBQ
            go_wp2_with fail
            replace HQ5 : Hid (On w (TS gd d' gv v' gc c' gs 50 L' false) wq (fun _ => False)) ∧ Hid (On w (TS gd d' gv v' gc c' gs 50 L' false) wq (fun b => A1.map (·.block) = some b ∨ (some (⟨b7, 0, none⟩ : Addr)).map (·.block) = some b)) := ⟨hid (HQ5.out.less fun _ h => h.elim), HQ5⟩
            obtain ⟨HQ5, HQ6⟩ := HQ5
            refine wp_region_held_drew (S := fun wx => wx.rangeAt kb 0 [.int .i64 x.k.t, .int .i64 x.k.c, .int .i64 x.k.e] ∧ wx.rangeAt wr.heap.size 1 [.int .i64 x.k.t, .int .i64 x.k.c, .int .i64 x.k.e] ∧ wx.rangeAt wr.heap.size 5 [.int .i64 x.p.k.t, .int .i64 x.p.k.c, .int .i64 x.p.k.e] ∧ wx.cell? ⟨wr.heap.size, 9, none⟩ = some (.int .i64 x.p.ver) ∧ On w (TS gd d' gv v' gc c' gs 50 L' false) wx (fun _ => False)) (by kernel_rfl) ⟨rangeAt_heapK hk0 rfl, rangeAt_heapK hk1 rfl, rangeAt_heapK hk5 rfl, (World.cell?_of_block rfl).trans hk9, HQ5.out.go (TS.ok _ _ _ _ _ _ _ _ _ _) (Below.refl _ _).drew⟩ (fun HS => ?_)
            refine wpAnyH_take (i := 0) (oi := ?oibz0) (v := ?vbz0) ?hibz0 (by kernel_rfl) (by kernel_rfl) (by kernel_rfl) ?hQbz0 ?hybz0 HS ?restbz0
            case hibz0 => simp only [List.getElem?_toArray, List.getElem?_cons_zero]; exact rfl
            case hQbz0 => exact fun _ _ _ h => h
            case hybz0 =>
              refine Or.inl ⟨by rfl, ?_⟩
              intro wS hSw
              go_simp
              try with_reducible rfl
            try simp only [Act.put, List.setIfInBounds_toArray, List.set_cons_zero, List.set_cons_succ]
            refine wpAnyH_take (i := 1) (oi := ?oibz1) (v := ?vbz1) ?hibz1 (by kernel_rfl) (by kernel_rfl) (by kernel_rfl) ?hQbz1 ?hybz1 HS ?restbz1
            case hibz1 => simp only [List.getElem?_toArray, List.getElem?_cons_succ, List.getElem?_cons_zero]; exact rfl
            case hQbz1 => exact fun _ _ _ h => h
            case hybz1 =>
              refine Or.inl ⟨by rfl, ?_⟩
              intro wS hSw
              go_simp
              try with_reducible rfl
            try simp only [Act.put, List.setIfInBounds_toArray, List.set_cons_zero, List.set_cons_succ]
            refine wpAnyH_take (i := 2) (oi := ?oibz2) (v := ?vbz2) ?hibz2 (by kernel_rfl) (by kernel_rfl) (by kernel_rfl) ?hQbz2 ?hybz2 HS ?restbz2
            case hibz2 => simp only [List.getElem?_toArray, List.getElem?_cons_succ, List.getElem?_cons_zero]; exact rfl
            case hQbz2 => exact fun _ _ _ h => h
            case hybz2 =>
              refine Or.inl ⟨by rfl, ?_⟩
              intro wS hSw
              go_simp
              try with_reducible rfl
            try simp only [Act.put, List.setIfInBounds_toArray, List.set_cons_zero, List.set_cons_succ]
            refine wpAnyH_take (i := 3) (oi := ?oibz3) (v := ?vbz3) ?hibz3 (by kernel_rfl) (by kernel_rfl) (by kernel_rfl) ?hQbz3 ?hybz3 HS ?restbz3
            case hibz3 => simp only [List.getElem?_toArray, List.getElem?_cons_succ, List.getElem?_cons_zero]; exact rfl
            case hQbz3 => exact fun _ _ _ h => h
            case hybz3 =>
              refine Or.inl ⟨by rfl, ?_⟩
              intro wS hSw
              go_simp
              try with_reducible rfl
            try simp only [Act.put, List.setIfInBounds_toArray, List.set_cons_zero, List.set_cons_succ]
            refine wpAnyH_take (i := 4) (oi := ?oibz4) (v := ?vbz4) ?hibz4 (by kernel_rfl) (by kernel_rfl) (by kernel_rfl) ?hQbz4 ?hybz4 HS ?restbz4
            case hibz4 => simp only [List.getElem?_toArray, List.getElem?_cons_succ, List.getElem?_cons_zero]; exact rfl
            case hQbz4 => exact fun _ _ _ h => h
            case hybz4 =>
              refine Or.inl ⟨by rfl, ?_⟩
              intro wS hSw
              go_simp
              try with_reducible rfl
            try simp only [Act.put, List.setIfInBounds_toArray, List.set_cons_zero, List.set_cons_succ]
            refine wpAnyH_take (i := 5) (oi := ?oibz5) (v := ?vbz5) ?hibz5 (by kernel_rfl) (by kernel_rfl) (by kernel_rfl) ?hQbz5 ?hybz5 HS ?restbz5
            case hibz5 => simp only [List.getElem?_toArray, List.getElem?_cons_succ, List.getElem?_cons_zero]; exact rfl
            case hQbz5 => exact fun _ _ _ h => h
            case hybz5 =>
              refine Or.inl ⟨by rfl, ?_⟩
              intro wS hSw
              go_simp
              try with_reducible rfl
            try simp only [Act.put, List.setIfInBounds_toArray, List.set_cons_zero, List.set_cons_succ]
            refine wpAnyH_take (i := 6) (oi := ?oibz6) (v := ?vbz6) ?hibz6 (by kernel_rfl) (by kernel_rfl) (by kernel_rfl) ?hQbz6 ?hybz6 HS ?restbz6
            case hibz6 => simp only [List.getElem?_toArray, List.getElem?_cons_succ, List.getElem?_cons_zero]; exact rfl
            case hQbz6 => exact fun _ _ _ h => h
            case hybz6 =>
              refine Or.inl ⟨by rfl, ?_⟩
              intro wS hSw
              go_simp
              try with_reducible rfl
            try simp only [Act.put, List.setIfInBounds_toArray, List.set_cons_zero, List.set_cons_succ]
            refine wpAnyH_take (i := 7) (oi := ?oibz7) (v := ?vbz7) ?hibz7 (by kernel_rfl) (by kernel_rfl) (by kernel_rfl) ?hQbz7 ?hybz7 HS ?restbz7
            case hibz7 => simp only [List.getElem?_toArray, List.getElem?_cons_succ, List.getElem?_cons_zero]; exact rfl
            case hQbz7 => exact fun _ _ _ h => h
            case hybz7 =>
              refine Or.inl ⟨by rfl, ?_⟩
              intro wS hSw
              refine Eq.trans (exec_key (k := x.k) (.tmp 17) ?_ ?_ hSw.1) ?_
              · rfl
              · rfl
              · with_reducible rfl
            try simp only [Act.put, List.setIfInBounds_toArray, List.set_cons_zero, List.set_cons_succ]
            refine wpAnyH_take (i := 8) (oi := ?oibz8) (v := ?vbz8) ?hibz8 (by kernel_rfl) (by kernel_rfl) (by kernel_rfl) ?hQbz8 ?hybz8 HS ?restbz8
            case hibz8 => simp only [List.getElem?_toArray, List.getElem?_cons_succ, List.getElem?_cons_zero]; exact rfl
            case hQbz8 => exact fun _ _ _ h => h
            case hybz8 =>
              refine Or.inl ⟨by rfl, ?_⟩
              intro wS hSw
              go_simp
              try with_reducible rfl
            try simp only [Act.put, List.setIfInBounds_toArray, List.set_cons_zero, List.set_cons_succ]
            refine wpAnyH_take (i := 9) (oi := ?oibz9) (v := ?vbz9) ?hibz9 (by kernel_rfl) (by kernel_rfl) (by kernel_rfl) ?hQbz9 ?hybz9 HS ?restbz9
            case hibz9 => simp only [List.getElem?_toArray, List.getElem?_cons_succ, List.getElem?_cons_zero]; exact rfl
            case hQbz9 => exact fun _ _ _ h => h
            case hybz9 =>
              refine Or.inl ⟨by rfl, ?_⟩
              intro wS hSw
              refine Eq.trans (exec_key (k := x.k) (.tmp 140) ?_ ?_ hSw.2.1) ?_
              · rfl
              · rfl
              · with_reducible rfl
            try simp only [Act.put, List.setIfInBounds_toArray, List.set_cons_zero, List.set_cons_succ]
            refine wpAnyH_take (i := 10) (oi := ?oibz10) (v := ?vbz10) ?hibz10 (by kernel_rfl) (by kernel_rfl) (by kernel_rfl) ?hQbz10 ?hybz10 HS ?restbz10
            case hibz10 => simp only [List.getElem?_toArray, List.getElem?_cons_succ, List.getElem?_cons_zero]; exact rfl
            case hQbz10 => exact fun _ _ _ h => h
            case hybz10 =>
              refine Or.inl ⟨by rfl, ?_⟩
              intro wS hSw
              have heq := HEK.out
              go_simp
              try with_reducible rfl
            try simp only [Act.put, List.setIfInBounds_toArray, List.set_cons_zero, List.set_cons_succ]
            refine wpAnyH_take (i := 11) (oi := ?oibz11) (v := ?vbz11) ?hibz11 (by kernel_rfl) (by kernel_rfl) (by kernel_rfl) ?hQbz11 ?hybz11 HS ?restbz11
            case hibz11 => simp only [List.getElem?_toArray, List.getElem?_cons_succ, List.getElem?_cons_zero]; exact rfl
            case hQbz11 => exact fun _ _ _ h => h
            case hybz11 =>
              refine Or.inl ⟨by rfl, ?_⟩
              intro wS hSw
              go_simp
              try with_reducible rfl
            try simp only [Act.put, List.setIfInBounds_toArray, List.set_cons_zero, List.set_cons_succ]
            refine wpAnyH_take (i := 12) (oi := ?oibz12) (v := ?vbz12) ?hibz12 (by kernel_rfl) (by kernel_rfl) (by kernel_rfl) ?hQbz12 ?hybz12 HS ?restbz12
            case hibz12 => simp only [List.getElem?_toArray, List.getElem?_cons_succ, List.getElem?_cons_zero]; exact rfl
            case hQbz12 => exact fun _ _ _ h => h
            case hybz12 =>
              refine Or.inl ⟨by rfl, ?_⟩
              intro wS hSw
              go_simp
              try with_reducible rfl
            try simp only [Act.put, List.setIfInBounds_toArray, List.set_cons_zero, List.set_cons_succ]
            refine wpAnyH_take (i := 13) (oi := ?oibz13) (v := ?vbz13) ?hibz13 (by kernel_rfl) (by kernel_rfl) (by kernel_rfl) ?hQbz13 ?hybz13 HS ?restbz13
            case hibz13 => simp only [List.getElem?_toArray, List.getElem?_cons_succ, List.getElem?_cons_zero]; exact rfl
            case hQbz13 => exact fun _ _ _ h => h
            case hybz13 =>
              refine Or.inl ⟨by rfl, ?_⟩
              intro wS hSw
              go_simp
              try with_reducible rfl
            try simp only [Act.put, List.setIfInBounds_toArray, List.set_cons_zero, List.set_cons_succ]
            refine wpAnyH_take (i := 14) (oi := ?oibz14) (v := ?vbz14) ?hibz14 (by kernel_rfl) (by kernel_rfl) (by kernel_rfl) ?hQbz14 ?hybz14 HS ?restbz14
            case hibz14 => simp only [List.getElem?_toArray, List.getElem?_cons_succ, List.getElem?_cons_zero]; exact rfl
            case hQbz14 => exact fun _ _ _ h => h
            case hybz14 =>
              refine Or.inl ⟨by rfl, ?_⟩
              intro wS hSw
              go_simp
              try with_reducible rfl
            try simp only [Act.put, List.setIfInBounds_toArray, List.set_cons_zero, List.set_cons_succ]
            refine wpAnyH_take (i := 15) (oi := ?oibz15) (v := ?vbz15) ?hibz15 (by kernel_rfl) (by kernel_rfl) (by kernel_rfl) ?hQbz15 ?hybz15 HS ?restbz15
            case hibz15 => simp only [List.getElem?_toArray, List.getElem?_cons_succ, List.getElem?_cons_zero]; exact rfl
            case hQbz15 => exact fun _ _ _ h => h
            case hybz15 =>
              refine Or.inl ⟨by rfl, ?_⟩
              intro wS hSw
              refine Eq.trans (exec_key (k := x.p.k) (.tmp 146) ?_ ?_ hSw.2.2.1) ?_
              · rfl
              · rfl
              · with_reducible rfl
            try simp only [Act.put, List.setIfInBounds_toArray, List.set_cons_zero, List.set_cons_succ]
            refine wpAnyH_take (i := 16) (oi := ?oibz16) (v := ?vbz16) ?hibz16 (by kernel_rfl) (by kernel_rfl) (by kernel_rfl) ?hQbz16 ?hybz16 HS ?restbz16
            case hibz16 => simp only [List.getElem?_toArray, List.getElem?_cons_succ, List.getElem?_cons_zero]; exact rfl
            case hQbz16 => exact fun _ _ _ h => h
            case hybz16 =>
              refine Or.inl ⟨by rfl, ?_⟩
              intro wS hSw
              go_simp
              try with_reducible rfl
            try simp only [Act.put, List.setIfInBounds_toArray, List.set_cons_zero, List.set_cons_succ]
            refine wpAnyH_take (i := 17) (oi := ?oibz17) (v := ?vbz17) ?hibz17 (by kernel_rfl) (by kernel_rfl) (by kernel_rfl) ?hQbz17 ?hybz17 HS ?restbz17
            case hibz17 => simp only [List.getElem?_toArray, List.getElem?_cons_succ, List.getElem?_cons_zero]; exact rfl
            case hQbz17 => exact fun _ _ _ h => h
            case hybz17 =>
              refine Or.inl ⟨by rfl, ?_⟩
              intro wS hSw
              refine Eq.trans (exec_key (k := x.k) (.tmp 148) ?_ ?_ hSw.2.1) ?_
              · rfl
              · rfl
              · with_reducible rfl
            try simp only [Act.put, List.setIfInBounds_toArray, List.set_cons_zero, List.set_cons_succ]
            refine wpAnyH_take (i := 18) (oi := ?oibz18) (v := ?vbz18) ?hibz18 (by kernel_rfl) (by kernel_rfl) (by kernel_rfl) ?hQbz18 ?hybz18 HS ?restbz18
            case hibz18 => simp only [List.getElem?_toArray, List.getElem?_cons_succ, List.getElem?_cons_zero]; exact rfl
            case hQbz18 => exact fun _ _ _ h => h
            case hybz18 =>
              refine Or.inl ⟨by rfl, ?_⟩
              intro wS hSw
              have heq := HEP.out
              go_simp
              try with_reducible rfl
            try simp only [Act.put, List.setIfInBounds_toArray, List.set_cons_zero, List.set_cons_succ]
            refine wpAnyH_take (i := 19) (oi := ?oibz19) (v := ?vbz19) ?hibz19 (by kernel_rfl) (by kernel_rfl) (by kernel_rfl) ?hQbz19 ?hybz19 HS ?restbz19
            case hibz19 => simp only [List.getElem?_toArray, List.getElem?_cons_succ, List.getElem?_cons_zero]; exact rfl
            case hQbz19 => exact fun _ _ _ h => h
            case hybz19 =>
              refine Or.inl ⟨by rfl, ?_⟩
              intro wS hSw
              go_simp
              try with_reducible rfl
            try simp only [Act.put, List.setIfInBounds_toArray, List.set_cons_zero, List.set_cons_succ]
            refine wpAnyH_take (i := 20) (oi := ?oibz20) (v := ?vbz20) ?hibz20 (by kernel_rfl) (by kernel_rfl) (by kernel_rfl) ?hQbz20 ?hybz20 HS ?restbz20
            case hibz20 => simp only [List.getElem?_toArray, List.getElem?_cons_succ, List.getElem?_cons_zero]; exact rfl
            case hQbz20 => exact fun _ _ _ h => h
            case hybz20 =>
              refine Or.inl ⟨by rfl, ?_⟩
              intro wS hSw
              go_simp
              try with_reducible rfl
            try simp only [Act.put, List.setIfInBounds_toArray, List.set_cons_zero, List.set_cons_succ]
            refine wpAnyH_take (i := 21) (oi := ?oibz21) (v := ?vbz21) ?hibz21 (by kernel_rfl) (by kernel_rfl) (by kernel_rfl) ?hQbz21 ?hybz21 HS ?restbz21
            case hibz21 => simp only [List.getElem?_toArray, List.getElem?_cons_succ, List.getElem?_cons_zero]; exact rfl
            case hQbz21 => exact fun _ _ _ h => h
            case hybz21 =>
              refine Or.inl ⟨by rfl, ?_⟩
              intro wS hSw
              go_simp
              try with_reducible rfl
            try simp only [Act.put, List.setIfInBounds_toArray, List.set_cons_zero, List.set_cons_succ]
            refine wpAnyH_take (i := 22) (oi := ?oibz22) (v := ?vbz22) ?hibz22 (by kernel_rfl) (by kernel_rfl) (by kernel_rfl) ?hQbz22 ?hybz22 HS ?restbz22
            case hibz22 => simp only [List.getElem?_toArray, List.getElem?_cons_succ, List.getElem?_cons_zero]; exact rfl
            case hQbz22 => exact fun _ _ _ h => h
            case hybz22 =>
              refine Or.inl ⟨by rfl, ?_⟩
              intro wS hSw
              go_simp
              try with_reducible rfl
            try simp only [Act.put, List.setIfInBounds_toArray, List.set_cons_zero, List.set_cons_succ]
            refine wpAnyH_take (i := 23) (oi := ?oibz23) (v := ?vbz23) ?hibz23 (by kernel_rfl) (by kernel_rfl) (by kernel_rfl) ?hQbz23 ?hybz23 HS ?restbz23
            case hibz23 => simp only [List.getElem?_toArray, List.getElem?_cons_succ, List.getElem?_cons_zero]; exact rfl
            case hQbz23 => exact fun _ _ _ h => h
            case hybz23 =>
              refine Or.inl ⟨by rfl, ?_⟩
              intro wS hSw
              have z9 := hSw.2.2.2.1
              go_simp
              try with_reducible rfl
            try simp only [Act.put, List.setIfInBounds_toArray, List.set_cons_zero, List.set_cons_succ]
            refine wpAnyH_take (i := 24) (oi := ?oibz24) (v := ?vbz24) ?hibz24 (by kernel_rfl) (by kernel_rfl) (by kernel_rfl) ?hQbz24 ?hybz24 HS ?restbz24
            case hibz24 => simp only [List.getElem?_toArray, List.getElem?_cons_succ, List.getElem?_cons_zero]; exact rfl
            case hQbz24 => exact fun _ _ _ h => h
            case hybz24 =>
              refine Or.inl ⟨by rfl, ?_⟩
              intro wS hSw
              go_simp
              try with_reducible rfl
            try simp only [Act.put, List.setIfInBounds_toArray, List.set_cons_zero, List.set_cons_succ]
            refine wpAnyH_ready (rs := [25]) (by kernel_rfl) (by simp) ?_
            refine AllReadyH.cons (o := ?obz25) ?hobz25 (fun K hK => ?stepbz25) AllReadyH.nil
            case hobz25 => simp only [List.getElem?_toArray, List.getElem?_cons_succ, List.getElem?_cons_zero]; exact rfl
            rw [if_pos (by rfl)]
            go_simp
            refine (cver_c ((ts_t gs gd gv gc 50 L' false).comp (tc_c gd d' gv v')) HS.2.2.2.2).mono ?_
            rintro e wv ⟨rfl, rfl⟩
            refine hK.out _ _ HS (fun HS => ?_)
            clear hK K
            try simp only [Act.put, List.setIfInBounds_toArray, List.set_cons_zero, List.set_cons_succ]
            refine wpAnyH_take (i := 26) (oi := ?oibz26) (v := ?vbz26) ?hibz26 (by kernel_rfl) (by kernel_rfl) (by kernel_rfl) ?hQbz26 ?hybz26 HS ?restbz26
            case hibz26 => simp only [List.getElem?_toArray, List.getElem?_cons_succ, List.getElem?_cons_zero]; exact rfl
            case hQbz26 => exact fun _ _ _ h => h
            case hybz26 =>
              refine Or.inl ⟨by rfl, ?_⟩
              intro wS hSw
              go_simp
              try with_reducible rfl
            try simp only [Act.put, List.setIfInBounds_toArray, List.set_cons_zero, List.set_cons_succ]
            refine wpAnyH_take (i := 27) (oi := ?oibz27) (v := ?vbz27) ?hibz27 (by kernel_rfl) (by kernel_rfl) (by kernel_rfl) ?hQbz27 ?hybz27 HS ?restbz27
            case hibz27 => simp only [List.getElem?_toArray, List.getElem?_cons_succ, List.getElem?_cons_zero]; exact rfl
            case hQbz27 => exact fun _ _ _ h => h
            case hybz27 =>
              refine Or.inl ⟨by rfl, ?_⟩
              intro wS hSw
              go_simp
              try with_reducible rfl
            try simp only [Act.put, List.setIfInBounds_toArray, List.set_cons_zero, List.set_cons_succ]
            refine wpAnyH_done (by kernel_rfl) ?_ _
            have HQ7 := hid (HQ6.out.go (TS.ok _ _ _ _ _ _ _ _ _ _) ((Below.refl _ _).drew))
            have HR7 : Hid (HRow wq.drew w.heap.size A1 i c1 hl) := hid (World.ownsRow.below HR5.out ((Below.refl _ _).drew))
            have HP7 : Hid (BRow 90 wq.drew w6.heap.size (some ⟨b7, 0, none⟩) k11 L') := hid (World.ownsRow.below HP5.out ((Below.refl _ _).drew))
            clear HS hk0 hk1 hk5 hk9
            go_wp2_with fail
            go_roundg (i - (k + 1))
            case measure => exact meas_jbK hgk2.out HKM.out
            case rel => exact ⟨k + 1, by first | rfl | rw [wk], hid rfl, hid HKM.out, HQ7, HR7, HP7⟩
      · have hkm : k = n1 := by have := hk.out; omega
        subst hkm
        have k2 : ¬ (k : Int) < (k : Int) := fun e => absurd e (Int.lt_irrefl _)
        have HQE : Hid (On w (TS gd d' gv v' gc c' gs 50 L' false) wr (fun b => A1.map (·.block) = some b)) := hid (hQ.out.less fun x hx => .inl hx)
        clear hge2 hk hgk2
        go_wp2_with fail
        go_roundg (n - (j + 1))
        case measure => exact meas_jbK hgk.out HJN.out
        case rel => exact ⟨j + 1, d', v', c', L', A1, k, c1, hl, rfl, by first | rfl | rw [wj], hid rfl, hid HJN.out, HSI8, HHv8, HLN8, hid ⟨HVV.out.1, HVV.out.2.1, HVV.out.2.2.1, HVV.out.2.2.2.1, HVV.out.2.2.2.2, HBD8.out.1, ky_20 HJ20.out⟩, HQE, hR, HHO8⟩
  · have hjn : j = n := by have := hj.out; omega
    subst hjn
    have j2 : ¬ (j : Int) < (j : Int) := by omega
    clear hge hj hgk
    go_wp2
    go_ret
    exact ⟨rfl, hV.out.below⟩
end Go.Proofs.YtdkbpjkoiegflaaGreat
