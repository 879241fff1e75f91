/- What more small calls of a vault do: bytes in memory of their own, an empty vault, what stands behind a handle, the key that a handle was sealed with. -/
import Derived.Test.YtaailoodhaibiaaVtW1
namespace Go.Proofs.Ytaailoodhaibiaa
open Go.RowKit

set_option maxHeartbeats 1000000 in
theorem own_c (A : Option Addr) (n c : Nat) (l : List UInt8) (w : World) (hr : Bts w 0 w.heap.size A n l) (hn : n ≤ 65536) :
    Calls Try.prog 18 #[.slice A n c] w fun e w' => ∃ A' c', e = .returned (.slice A' n c') ∧ w'.ownsRow w.heap.size 5 1 (.slice A' n c') n (bs l) ∧ Below w.heap.size w w' := by
  have HR := hid hr
  have HN := hid hn
  clear hr hn
  go_enter Try.func18, Try.ntmps18
  go_wp2_with (at_make; refine wpList_make_new _ rfl _ _ 33 rfl 5 (.int .u8 0) 1 Try.underlying33 Try.infoU8 rfl (n : Int) (n : Int) n n rfl rfl rfl rfl (Nat.le_refl _) (by have := HN.out; omega) (by have := HN.out; omega) ?_)
  intro w1 hz1 hg1 hs1
  have B1 : Below w.heap.size w w1 := (Below.refl _ _).grown hg1 (Nat.le_refl _) (fun k hk => by cases hk)
  have hB1 : Blk w1 w.heap.size 5 (zeros n (.int .u8 0)).toArray := hz1.out
  have hcp := run_copyN w1 3 w.heap.size n A n c 0 w.heap.size l (HR.out.below B1 (Nat.le_refl _)) (fun j hj => ⟨by rw [hB1.cell, Nat.zero_add]; simp [zeros, hj], hB1.frozen _⟩)
  have hB2 := hB1.setAll (bs l) (by rw [bs_len, HR.out.len]; simp [zeros])
  have g2 := grown_setCells w.heap.size (bs l) 0 w1
  generalize w1.setCells w.heap.size 0 (bs l) = w2 at *
  have HB2 := hid hB2
  have HO : Hid (Below w.heap.size w w2) := hid (B1.grown g2 (Nat.le_of_lt hs1) (fun k hk => by injection hk with hk; omega))
  clear hB1 hB2 g2 hz1 hg1 B1
  go_wp2
  go_ret
  refine ⟨_, _, rfl, ⟨by rw [bs_len, HR.out.len, Nat.mul_one], .inr ⟨w.heap.size, n, (bs l).toArray, rfl, Nat.le_refl _, HB2.out, Nat.le_refl _, by have := HN.out; unfold maxLen; omega, by simp [bs_len, HR.out.len], ?_⟩⟩, HO.out⟩
  exact List.take_of_length_le (by simp [bs_len, HR.out.len])

theorem Vlt.new {w : World} {lo m g : Nat} (hb : Blk w g 61 #[.slice none 0 0, .map (some m)]) (hm : w.ownsMap (H := Unit) Try.prog 32 unitElem m 0 (.map [])) (h1 : m < g) (h2 : lo ≤ m) : Vlt w (fun j => lo ≤ j ∧ j < w.heap.size) g Va.new :=
  ⟨m, none, 0, [], hb, own_nilrow _ _ _ _, rfl, fun x hx => (by cases hx), ⟨0, .map [], hm, Nat.zero_le _, fun k hk => (by simp [Maps.has, Va.new])⟩, by omega, fun b hb => (by cases hb), ⟨by omega, hb.lt⟩, ⟨h2, by have := hb.lt; omega⟩, fun j hj => hj.2⟩
theorem vnew_c (w : World) : Calls Try.prog 8 #[] w fun e w' => ∃ g F, e = .returned (.pointer (some ⟨g, 0, none⟩)) ∧ Vlt w' F g Va.new ∧ Below w.heap.size w w' ∧ ∀ j, F j → w.heap.size ≤ j := by
  have hmm := @run_makeMap Try.prog
  have hb1 : Below w.heap.size w (w.alloc (.map #[] 0)) := (Below.refl _ _).alloc (Nat.le_refl _) _
  have ho := World.ownsMap_made (H := Unit) w Try.prog 32 unitElem
  have hs1 : (w.alloc (.map #[] 0)).heap.size = w.heap.size + 1 := by simp
  have HB : Hid (Below w.heap.size w ((w.alloc (.map #[] 0)).alloc (.cells #[.slice none 0 0, .map (some w.heap.size)] 61))) := hid (hb1.alloc (by omega) _)
  have HV : Hid (Vlt ((w.alloc (.map #[] 0)).alloc (.cells #[.slice none 0 0, .map (some w.heap.size)] 61)) (fun j => w.heap.size ≤ j ∧ j < ((w.alloc (.map #[] 0)).alloc (.cells #[.slice none 0 0, .map (some w.heap.size)] 61)).heap.size) (w.heap.size + 1) Va.new) := hid (Vlt.new (by have := Blk.new (w.alloc (.map #[] 0)) 61 #[.slice none 0 0, .map (some w.heap.size)]; rw [hs1] at this; exact this) (ho.alloc _) (by omega) (Nat.le_refl _))
  clear hb1 ho hs1
  go_enter Try.func8, Try.ntmps8
  go_wp2
  go_ret
  exact ⟨_, _, rfl, HV.out, HB.out, fun j hj => hj.1⟩

def Ep.zero : Ep := ⟨⟨0, 0, 0⟩, [], [], none, 0⟩
/-- What stands behind a handle, as it lies. -/
def epAt (es : List Ep) (h : Nat) : Ep := if h = 0 then Ep.zero else (es[h - 1]?).getD Ep.zero
theorem epAt_no {es : List Ep} {h : Nat} (hh : ¬ (1 ≤ h ∧ h ≤ es.length)) : epAt es h = Ep.zero := by
  unfold epAt
  split
  · rfl
  · rw [List.getElem?_eq_none (by omega)]
    rfl
theorem epAt_yes {es : List Ep} {j : Nat} (hj : j < es.length) : epAt es (j + 1) = es[j] := by
  unfold epAt
  rw [if_neg (by omega), Nat.add_sub_cancel, List.getElem?_eq_getElem hj]
  rfl
theorem own_le {w : World} {base : Nat} {e : TypeId} {z n c : Nat} {A : Option Addr} {xs : List Value} (h : w.ownsRow base e z (.slice A n c) n xs) : n ≤ maxLen := by
  rcases h.2 with ⟨_, h0⟩ | ⟨g, cap, cur, hv, _, _, h1, h2, _⟩
  · unfold maxLen; omega
  · omega
theorem wrapu {a : Int} (h : 0 ≤ a) (h2 : a < 18446744073709551616) : IntKind.u64.wrap a = a := by
  simp [IntKind.wrap, IntKind.signed, IntKind.bits]
  omega
theorem zcells (w : World) : (w.alloc (.cells #[.int .i64 0, .int .i64 0, .int .i64 0, .string ⟨#[]⟩, .slice none 0 0] 65)).there w.heap.size 0 5 := by
  have hB := Blk.new w 65 #[.int .i64 0, .int .i64 0, .int .i64 0, .string ⟨#[]⟩, .slice none 0 0]
  intro j hj
  refine ⟨?_, hB.frozen _⟩
  rw [hB.cell, Nat.zero_add, Array.getElem?_eq_getElem (by simpa using hj)]
  rfl
theorem zres (w : World) : (loadVar 65 ⟨w.heap.size, 0, none⟩).run Try.prog (w.alloc (.cells #[.int .i64 0, .int .i64 0, .int .i64 0, .string ⟨#[]⟩, .slice none 0 0] 65)) = .ok (.agg #[.int .i64 0, .int .i64 0, .int .i64 0, .string ⟨#[]⟩, .slice none 0 0]) (w.alloc (.cells #[.int .i64 0, .int .i64 0, .int .i64 0, .string ⟨#[]⟩, .slice none 0 0] 65)) := by
  have hB := Blk.new w 65 #[.int .i64 0, .int .i64 0, .int .i64 0, .string ⟨#[]⟩, .slice none 0 0]
  exact run_loadVar_mid (P := Try.prog) _ w.heap.size 0 65 [.int .i64 0, .int .i64 0, .int .i64 0, .string ⟨#[]⟩, .slice none 0 0] _ (fun j v hv => by rw [hB.cell, Nat.zero_add]; simpa using hv) Try.underlying65 rfl Try.infoSe1

set_option maxHeartbeats 1000000 in
theorem behind_c (w : World) (F : Nat → Prop) (g : Nat) (s : Va) (m : Nat) (A : Option Addr) (c : Nat) (es : List Ep) (h : VaAt w F g s m A c es) (H : Int) (hd : Nat) (hH : H = (hd : Int)) (hh : hd < 18446744073709551616) :
    Calls Try.prog 20 #[.pointer (some ⟨g, 0, none⟩), .int .u64 H] w fun e w' => e = .returned (.tuple #[(.agg #[.int .i64 (epAt es hd).k.t, .int .i64 (epAt es hd).k.c, .int .i64 (epAt es hd).k.e, .string (str (epAt es hd).b), .slice (epAt es hd).A (epAt es hd).p.length (epAt es hd).c]), .bool (decide (1 ≤ hd ∧ hd ≤ es.length))]) ∧ Below w.heap.size w w' := by
  have hb1 : Below w.heap.size w (w.alloc (.cells #[.int .i64 0, .int .i64 0, .int .i64 0, .string ⟨#[]⟩, .slice none 0 0] 65)) := (Below.refl _ _).alloc (Nat.le_refl _) _
  have hlen : es.length ≤ 9223372036854775807 := by have := own_le h.row; unfold maxLen at this; omega
  have hwl : IntKind.u64.wrap (es.length : Int) = (es.length : Int) := wrapu (by omega) (by omega)
  obtain ⟨h0, -⟩ := (h.bel hb1).cells
  have hth := zcells w
  go_enter Try.func20, Try.ntmps20
  by_cases hin : 1 ≤ hd ∧ hd ≤ es.length
  · obtain ⟨j, rfl⟩ : ∃ j, hd = j + 1 := ⟨hd - 1, by omega⟩
    have hj : j < es.length := by omega
    obtain ⟨b, hA, hlt, hr⟩ := h.range hj
    rw [epAt_yes hj, decide_eq_true hin]
    have HR := hid (rangeAt_keep hr (hb1.block b hlt))
    generalize es[j] = x at *
    have e1 : (H == 0) = false := by simp; omega
    have e2 : decide ((es.length : Int) < H) = false := by simp; omega
    have e3 : IntKind.u64.wrap (H - 1) = (j : Int) := by rw [wrapu (by omega) (by omega)]; omega
    have i1 : (0 : Int) ≤ (j : Int) := by omega
    have i2 : (j : Int) < (es.length : Int) := by omega
    have HB1 := hid hb1
    have hs1 : (w.alloc (.cells #[.int .i64 0, .int .i64 0, .int .i64 0, .string ⟨#[]⟩, .slice none 0 0] 65)).heap.size = w.heap.size + 1 := by simp
    have r4 : ((w.alloc (.cells #[.int .i64 0, .int .i64 0, .int .i64 0, .string ⟨#[]⟩, .slice none 0 0] 65)).setCells w.heap.size 0 x.cells).rangeAt w.heap.size 0 x.cells := World.rangeAt_setCells_same _ _ _ _ hth
    have g4 := grown_setCells w.heap.size x.cells 0 (w.alloc (.cells #[.int .i64 0, .int .i64 0, .int .i64 0, .string ⟨#[]⟩, .slice none 0 0] 65))
    have HT := hid hth
    have HC := hid (all_oneCell_toArray (ep_cell x))
    subst hA
    clear h hin hlen hH hh hj hr hlt hth hb1
    generalize hw1 : w.alloc (.cells #[.int .i64 0, .int .i64 0, .int .i64 0, .string ⟨#[]⟩, .slice none 0 0] 65) = w1 at *
    have HBB : Hid (Below w.heap.size w (w1.setCells w.heap.size 0 x.cells)) := hid (HB1.out.grown g4 (by omega) (fun k hk => by injection hk with hk; omega))
    generalize hw4 : w1.setCells w.heap.size 0 x.cells = w4 at *
    have HW4 := hid hw4
    have HRES := hid (run_loadVar_mid (P := Try.prog) w4 w.heap.size 0 65 x.cells _ r4 Try.underlying65 rfl Try.infoSe1)
    have HEX : Hid (Value.agg x.cells.toArray = (.agg #[.int .i64 (x).k.t, .int .i64 (x).k.c, .int .i64 (x).k.e, .string (str (x).b), .slice (x).A (x).p.length (x).c])) := hid rfl
    clear r4 g4 hw4 hs1
    subst hw1
    go_wp2_with (first | (refine wpList_load_mid rfl 65 _ rfl b (j * 5) rfl x.cells _ HR.out Try.underlying65 rfl Try.infoSe1 ?_) | (refine wpList_store_mid rfl 65 _ _ rfl _ _ x.cells.toArray rfl rfl HT.out Try.infoSe1 HC.out ?_; rw [show World.setCells _ w.heap.size 0 x.cells.toArray.toList = w4 from HW4.out]))
    rw [← HEX.out]
    have hres := HRES.out
    refine bodyPost_ret (v := .tuple #[.agg x.cells.toArray, .bool true]) ?_ rfl ⟨rfl, HBB.out⟩
    simp [results, Try.results20, asAddr, hres]
  · rw [epAt_no hin, decide_eq_false hin]
    have HB1 := hid hb1
    have hres := zres w
    have hz : hd = 0 ∨ es.length < hd := by omega
    rcases hz with hz | hz
    · have e1 : (H == 0) = true := by simp; omega
      clear h hin hlen hH hh hth hb1 hz
      go_wp2
      refine bodyPost_ret (v := .tuple #[.agg #[.int .i64 0, .int .i64 0, .int .i64 0, .string ⟨#[]⟩, .slice none 0 0], .bool false]) ?_ rfl ⟨rfl, HB1.out⟩
      simp [results, Try.results20, asAddr, hres]
    · have e1 : (H == 0) = false := by simp; omega
      have e2 : decide ((es.length : Int) < H) = true := by simp; omega
      clear h hin hlen hH hh hth hb1 hz
      go_wp2
      refine bodyPost_ret (v := .tuple #[.agg #[.int .i64 0, .int .i64 0, .int .i64 0, .string ⟨#[]⟩, .slice none 0 0], .bool false]) ?_ rfl ⟨rfl, HB1.out⟩
      simp [results, Try.results20, asAddr, hres]

theorem Try.infoKey : (Try.prog.info? 32).map (·.size) = some 3 := by kernel_rfl
theorem key_cell (k : Ky) : (#[.int .i64 k.t, .int .i64 k.c, .int .i64 k.e] : Array Value).all (·.oneCell') = true := all_oneCell_toArray (cs := [.int .i64 k.t, .int .i64 k.c, .int .i64 k.e]) (fun u hu => by
  simp only [List.mem_cons, List.not_mem_nil, or_false] at hu
  rcases hu with rfl | rfl | rfl <;> rfl)
def uK (s : Va) (h : Nat) : Ky := ((behind s.L h).map (·.k)).getD ⟨0, 0, 0⟩
theorem epAt_behind {es : List Ep} {L : List En} (he : es.map Ep.en = L) (h : Nat) : behind L h = if 1 ≤ h ∧ h ≤ es.length then some (epAt es h).en else none := by
  subst he
  unfold behind
  by_cases h0 : h = 0
  · rw [if_pos h0, if_neg (by omega)]
  · rw [if_neg h0]
    obtain ⟨j, rfl⟩ : ∃ j, h = j + 1 := ⟨h - 1, by omega⟩
    by_cases hj : j < es.length
    · rw [if_pos (by omega), epAt_yes hj, Nat.add_sub_cancel, List.getElem?_map, List.getElem?_eq_getElem hj]
      rfl
    · rw [if_neg (by omega), List.getElem?_eq_none (by simp; omega)]
theorem epAt_k {es : List Ep} {s : Va} (he : es.map Ep.en = s.L) (h : Nat) : (epAt es h).k = uK s h := by
  unfold uK
  rw [epAt_behind he]
  split
  · rfl
  · rename_i hh
    rw [epAt_no hh]
    rfl
theorem under_nil (w : World) (H : Int) :
    Calls Try.prog 14 #[.pointer none, .int .u64 H] w fun e w' => e = .returned (.tuple #[.agg #[.int .i64 0, .int .i64 0, .int .i64 0], .bool false]) ∧ Below w.heap.size w w' := by
  have HB1 : Hid (Below w.heap.size w (w.alloc (.cells #[.int .i64 0, .int .i64 0, .int .i64 0] 32))) := hid ((Below.refl _ _).alloc (Nat.le_refl _) _)
  have hB := Blk.new w 32 #[.int .i64 0, .int .i64 0, .int .i64 0]
  have hres := run_loadVar_mid (P := Try.prog) _ w.heap.size 0 32 [.int .i64 0, .int .i64 0, .int .i64 0] _ (fun j v hv => by rw [hB.cell, Nat.zero_add]; simpa using hv) Try.underlying32 rfl Try.infoKey
  clear hB
  go_enter Try.func14, Try.ntmps14
  go_wp2
  refine bodyPost_ret (v := .tuple #[.agg #[.int .i64 0, .int .i64 0, .int .i64 0], .bool false]) ?_ rfl ⟨rfl, HB1.out⟩
  simp [results, Try.results14, asAddr, hres]

set_option maxHeartbeats 1000000 in
theorem under_c (w : World) (F : Nat → Prop) (g : Nat) (s : Va) (h : Vlt w F g s) (H : Int) (hd : Nat) (hH : H = (hd : Int)) (hh : hd < 18446744073709551616) :
    Calls Try.prog 14 #[.pointer (some ⟨g, 0, none⟩), .int .u64 H] w fun e w' => e = .returned (.tuple #[(.agg #[.int .i64 (uK s hd).t, .int .i64 (uK s hd).c, .int .i64 (uK s hd).e]), .bool (decide (1 ≤ hd ∧ hd ≤ s.L.length))]) ∧ Below w.heap.size w w' := by
  obtain ⟨m, A, c, es, h⟩ := h
  have HB1 : Hid (Below w.heap.size w (w.alloc (.cells #[.int .i64 0, .int .i64 0, .int .i64 0] 32))) := hid ((Below.refl _ _).alloc (Nat.le_refl _) _)
  have hB := Blk.new w 32 #[.int .i64 0, .int .i64 0, .int .i64 0]
  have hs1 : (w.alloc (.cells #[.int .i64 0, .int .i64 0, .int .i64 0] 32)).heap.size = w.heap.size + 1 := by simp
  have hbe := behind_c _ F g s m A c es (h.bel HB1.out) H hd hH hh
  rw [← epAt_k h.ens, ← h.len]
  have HS1 := hid hs1
  have HK := hid hB
  generalize epAt es hd = x at *
  generalize decide (1 ≤ hd ∧ hd ≤ es.length) = q at *
  clear h hH hh hs1 hB
  go_enter Try.func14, Try.ntmps14
  go_wp2_with fail
  refine hbe.mono ?_
  rintro e w2 ⟨rfl, hb2⟩
  rw [HS1.out] at hb2
  have hb3 : Below w.heap.size w w2 := HB1.out.trans (hb2.mono (by omega))
  have hK2 := HK.out.keep (hb2.block w.heap.size (by omega))
  clear hbe HB1 HK HS1
  have hg2 : w.heap.size < w2.heap.size := hK2.lt
  generalize hgb : w.heap.size = gb at *
  have HGB := hid hgb
  clear hgb
  have hb4 : Below w2.heap.size w2 (w2.alloc (.cells #[.int .i64 x.k.t, .int .i64 x.k.c, .int .i64 x.k.e, .string (str x.b), .slice x.A x.p.length x.c] 65)) := (Below.refl _ _).alloc (Nat.le_refl _) _
  have hK3 := hK2.keep (hb4.block gb hg2)
  have HT : Hid ((w2.alloc (.cells #[.int .i64 x.k.t, .int .i64 x.k.c, .int .i64 x.k.e, .string (str x.b), .slice x.A x.p.length x.c] 65)).there gb 0 #[Value.int .i64 x.k.t, .int .i64 x.k.c, .int .i64 x.k.e].size) := hid (fun j hj => ⟨by rw [hK3.cell, Nat.zero_add, Array.getElem?_eq_getElem (by simpa using hj)]; rfl, hK3.frozen _⟩)
  have hr5 := World.rangeAt_setCells_same _ gb 0 [Value.int .i64 x.k.t, .int .i64 x.k.c, .int .i64 x.k.e] HT.out
  have HB5 : Hid (Below gb w ((w2.alloc (.cells #[.int .i64 x.k.t, .int .i64 x.k.c, .int .i64 x.k.e, .string (str x.b), .slice x.A x.p.length x.c] 65)).setCells gb 0 [Value.int .i64 x.k.t, .int .i64 x.k.c, .int .i64 x.k.e])) := hid ((hb3.trans (hb4.mono (by omega))).grown (grown_setCells gb _ 0 _) (by simp; omega) (fun k hk => by injection hk with hk; omega))
  have hres := run_loadVar_mid (P := Try.prog) _ gb 0 32 [Value.int .i64 x.k.t, .int .i64 x.k.c, .int .i64 x.k.e] _ hr5 Try.underlying32 rfl Try.infoKey
  generalize hw5 : (w2.alloc (.cells #[.int .i64 x.k.t, .int .i64 x.k.c, .int .i64 x.k.e, .string (str x.b), .slice x.A x.p.length x.c] 65)).setCells gb 0 [Value.int .i64 x.k.t, .int .i64 x.k.c, .int .i64 x.k.e] = w5 at *
  have HW5 := hid hw5
  have HRS := hid hres
  clear hb2 hb3 hb4 hK2 hK3 hr5 hw5 hres
  go_wp2_with (refine wpList_store_mid rfl 32 _ _ rfl gb 0 #[.int .i64 x.k.t, .int .i64 x.k.c, .int .i64 x.k.e] rfl rfl HT.out Try.infoKey (key_cell x.k) ?_; rw [show World.setCells _ gb 0 (Array.toList #[Value.int .i64 x.k.t, .int .i64 x.k.c, .int .i64 x.k.e]) = w5 from HW5.out])
  have hres := HRS.out
  refine bodyPost_ret (v := .tuple #[(.agg #[.int .i64 (x.k).t, .int .i64 (x.k).c, .int .i64 (x.k).e]), .bool q]) ?_ rfl ⟨rfl, by rw [HGB.out]; exact HB5.out⟩
  simp [results, Try.results14, asAddr, hres]
end Go.Proofs.Ytaailoodhaibiaa
