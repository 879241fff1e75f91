/- What the document's own Put returns: the bytes of a value. -/
import Derived.Test.YtfjpnkchldjjmaaGreatDoorVlPut
import Derived.Test.YtfjpnkchldjjmaaGreatDoorVlW3q
import Derived.Test.YtfjpnkchldjjmaaGreatDoorPkRef
namespace Go.Proofs.YtfjpnkchldjjmaaGreatDoor
open Go.RowKit

theorem vown_keep {w w' : World} {base : Nat} {e : TypeId} {z n c : Nat} {A : Option Addr} {xs : List Value} (h : w.ownsRow base e z (.slice A n c) n xs) (hb : Below w.heap.size w w') : w'.ownsRow base e z (.slice A n c) n xs := by
  refine ⟨h.1, ?_⟩
  rcases h.2 with h2 | ⟨g, cap, cur, hv, hb1, hg, h3⟩
  · exact .inl h2
  · exact .inr ⟨g, cap, cur, hv, hb1, (hb.block g (Array.getElem?_eq_some_iff.1 hg).1).trans hg, h3⟩
theorem row_of {w w3 : World} {m : List UInt8} {N c : Nat} {A : Option Addr} (hN : m.length = N) (hc : N ≤ c) (ho : w3.ownsRow w.heap.size 5 1 (.slice A N c) N (bs m)) (hb : Below w.heap.size w w3) : Row w m (.returned (.slice A N c)) w3 := by
  subst hN
  exact ⟨A, c, rfl, hc, ho, hb⟩
theorem rright_at (v : Vl) (k n : Int) (s : List UInt8) (f : Nat) (h : vRt v = (k, n, s, f)) (hf : vf v < 18446744073709551616) (w : World) :
    Calls Tryz.prog 24 #[(.agg #[.int .i64 (vk v), .int .i64 (vn v), .string (str (vs v)), .int .u64 ((vf v : Nat) : Int)])] w fun e w' => e = .returned (.agg #[.int .i64 (k), .int .i64 (n), .string (str (s)), .int .u64 ((f : Nat) : Int)]) ∧ Below w.heap.size w w' := by
  have := rright_c v hf w
  rw [h] at this
  exact this
/-- op-level: append of a row of bytes, and of a text. -/
theorem wp_appL {op : Oper} {a : Act} {w : World} {K : Act → World → Prop} {Q : Exit → Act → World → Prop} (s x : Operand) (ho : op.op = .call { callee := .builtin .append, args := #[s, x], argTypes := #[22, 22] })
    (base : Nat) (A : Option Addr) (n c : Nat) (xs : List Value) (hs : a.eval s = .slice A n c) (hown : w.ownsRow base 5 1 (.slice A n c) n xs) (b o m c2 : Nat) (news : List Value) (hx : a.eval x = .slice (some ⟨b, o, none⟩) m c2)
    (hl : news.length = m) (hr : w.rangeAt b o news) (h1 : ∀ u ∈ news, u.oneCell' = true) (hn : n + m ≤ 1000000) (hbase : base ≤ w.heap.size)
    (h : ∀ A' c' w', n + m ≤ c' → w'.ownsRow base 5 1 (.slice A' (n + m) c') (n + m) (xs ++ news) → Below base w w' → w.grownBy w' (A.map (·.block)) → K (a.put op.dst (.slice A' (n + m) c')) w') : op.wp Tryz.prog a w K Q := by
  obtain ⟨i, hi, hz0, hz1, hz2⟩ := info_parts Tryz.info5
  obtain ⟨v', w', hrun, h2, h3, _, h5⟩ := run_append_own_at (P := Tryz.prog) w base 22 op.type 5 i _ 1 1 Tryz.underlying22 hi hz0 hz1 hz2 rfl (by decide) _ n xs hown ⟨b, o, none⟩ m c2 news (by omega) (fun j u hu => by rw [add_plain]; exact hr j u hu) h1 (by unfold maxLen; omega) (by omega) hbase
  have hv : (Value.slice A n c).ownBlock = A.map (·.block) := by cases A <;> rfl
  obtain ⟨A', c', rfl, hc'⟩ := own_form h2
  unfold Oper.wp execOp
  simp only [ho, resolve, invoke, builtin, Sem.run_bind, Sem.run_pure, Result.andThen_ok, List.map_toArray, List.map_cons, List.map_nil, hs, hx, hrun]
  rw [hv] at h3
  exact h A' c' w' hc' h2 (grown_below h3 hbase fun k hk => (hown.lt k (by rw [hv]; exact hk)).1) h3
theorem wp_appS {op : Oper} {a : Act} {w : World} {K : Act → World → Prop} {Q : Exit → Act → World → Prop} (s x : Operand) (ho : op.op = .call { callee := .builtin .append, args := #[s, x], argTypes := #[22, 9] })
    (base : Nat) (A : Option Addr) (n c : Nat) (xs : List Value) (hs : a.eval s = .slice A n c) (hown : w.ownsRow base 5 1 (.slice A n c) n xs) (l : List UInt8) (hx : a.eval x = .string (str l))
    (hn : n + l.length ≤ 1000000) (hbase : base ≤ w.heap.size)
    (h : ∀ A' c' w', n + l.length ≤ c' → w'.ownsRow base 5 1 (.slice A' (n + l.length) c') (n + l.length) (xs ++ bs l) → Below base w w' → w.grownBy w' (A.map (·.block)) → K (a.put op.dst (.slice A' (n + l.length) c')) w') : op.wp Tryz.prog a w K Q := by
  obtain ⟨i, hi, hz0, hz1, hz2⟩ := info_parts Tryz.info5
  obtain ⟨v', w', hrun, h2, h3, _⟩ := Lib.run_append_own_string (P := Tryz.prog) w base 22 9 op.type 5 i Tryz.underlying22 Tryz.underlying9 hi hz0 hz1 hz2 _ n xs hown (str l) (by rw [str_size]; unfold maxLen; omega) (by rw [str_size]; omega) hbase
  have hv : (Value.slice A n c).ownBlock = A.map (·.block) := by cases A <;> rfl
  have h2' : w'.ownsRow base 5 1 v' (n + l.length) (xs ++ bs l) := by
    rw [str_size] at h2
    have e : Lib.strCells (str l) = bs l := by unfold Lib.strCells bs; rw [str_data]
    rw [e] at h2
    exact h2
  obtain ⟨A', c', rfl, hc'⟩ := own_form h2'
  unfold Oper.wp execOp
  simp only [ho, resolve, invoke, builtin, Sem.run_bind, Sem.run_pure, Result.andThen_ok, List.map_toArray, List.map_cons, List.map_nil, hs, hx, hrun]
  rw [hv] at h3
  exact h A' c' w' hc' h2' (grown_below h3 hbase fun k hk => (hown.lt k (by rw [hv]; exact hk)).1) h3

theorem row_ne {w : World} {base : Nat} {A : Option Addr} {n c g : Nat} {xs : List Value} {cs : Array Value} (ho : w.ownsRow base 5 1 (.slice A n c) n xs) (hB : Blk w g 26 cs) : ∀ b, A.map (·.block) = some b → b ≠ g := by
  intro b hb e
  subst e
  rcases ho.2 with ⟨hv, _⟩ | ⟨q, cap, cur, hv, _, hg, _⟩
  · injection hv with hA; subst hA; cases hb
  · injection hv with hA
    subst hA
    simp at hb
    subst hb
    unfold Blk at hB
    rw [hB] at hg
    simp at hg
theorem blk_row {w w' : World} {base : Nat} {A : Option Addr} {n c g : Nat} {xs : List Value} {cs : Array Value} (ho : w.ownsRow base 5 1 (.slice A n c) n xs) (hB : Blk w g 26 cs) (hg : w.grownBy w' (A.map (·.block))) : Blk w' g 26 cs :=
  hB.keep (hg.block g hB.lt (fun e => row_ne ho hB g e.symm rfl))
theorem own1 (w : World) {B : Nat} (o : Obj) (k : UInt8) (hB : B ≤ w.heap.size) : ((w.alloc o).alloc (.cells #[.int .u8 (k.toNat : Int)] 5)).ownsRow B 5 1 (.slice (some ⟨w.heap.size + 1, 0, none⟩) 1 1) 1 (bs [k]) :=
  ⟨rfl, .inr ⟨w.heap.size + 1, 1, #[.int .u8 (k.toNat : Int)], rfl, by omega, by have := heap_alloc_new (w.alloc o) (.cells #[.int .u8 (k.toNat : Int)] 5); rwa [show (w.alloc o).heap.size = w.heap.size + 1 by simp] at this, Nat.le_refl _, by decide, rfl, rfl⟩⟩
set_option maxRecDepth 20000 in
set_option maxHeartbeats 4000000 in
theorem rput_1 (v : Vl) (n : Int) (n1 : -9223372036854775808 ≤ n) (n2 : n ≤ 9223372036854775807) (h : vRt v = (1, n, [], 0)) (hf : vf v < 18446744073709551616) (w : World) :
    Calls Tryz.prog 7 #[(.agg #[.int .i64 (vk v), .int .i64 (vn v), .string (str (vs v)), .int .u64 ((vf v : Nat) : Int)])] w (Row w (vPutR (vRt v))) := by
  have HC := hid (fun wx => rright_at v 1 n [] 0 h hf wx)
  rw [h]
  have HP : Hid (vPutR (1, n, [], 0) = 1 :: nat (fold n)) := hid rfl
  rw [HP.out]
  clear h hf HP
  go_enter Tryz.func7, Tryz.ntmps7
  go_wp2_with fail
  refine (HC.out _).mono ?_
  rintro e w2 ⟨rfl, hb2⟩
  have HB2 : Hid (Below w.heap.size w w2) := hid ((bel1 w _).trans (hb2.mono (by simp)))
  clear HC hb2
  have HN1 := hid n1
  have HN2 := hid n2
  have HFL := hid (fold_lt n1 n2)
  have HNL := hid (nat_len_u64 (fold_lt n1 n2))
  have HNP := hid (nat_pos (fold n))
  clear n1 n2
  have O1 : Hid (((w2.alloc (.cells #[.int .i64 1, .int .i64 n, .string (str []), .int .u64 0] 26)).alloc (.cells #[.int .u8 1] 5)).ownsRow w.heap.size 5 1 (.slice (some ⟨w2.heap.size + 1, 0, none⟩) 1 1) 1 (bs [1])) := hid (own1 w2 _ 1 HB2.out.size)
  have B1 : Hid (Below w.heap.size w ((w2.alloc (.cells #[.int .i64 1, .int .i64 n, .string (str []), .int .u64 0] 26)).alloc (.cells #[.int .u8 1] 5))) := hid ((HB2.out.alloc HB2.out.size _).alloc (by simp; have := HB2.out.size; omega) _)
  go_wp2_with fail
  generalize (w2.alloc (.cells #[.int .i64 1, .int .i64 n, .string (str []), .int .u64 0] 26)).alloc (.cells #[.int .u8 1] 5) = w3 at *
  refine (refFolded_c n w3 HN1.out HN2.out).mono ?_
  rintro e w' ⟨rfl, rfl⟩
  go_wp2_with fail
  refine (refNatural_c _ (fold n) w3 (Nat.le_refl _) HFL.out).mono ?_
  intro e w4 hrow
  obtain ⟨A4, n4, c4, rfl, hn4, hc4, ho4, hbt4, hb4⟩ := hrow.out
  have O4 := hid (vown_keep O1.out hb4)
  have B4 : Hid (Below w.heap.size w w4) := hid (B1.out.trans (hb4.mono B1.out.size))
  have L4 := hid hbt4.lst
  have HL4 : Hid (n4 ≤ 10) := hid (by have := hn4.out; have := HNL.out; omega)
  generalize nat (fold n) = m at *
  clear hrow ho4 hbt4 hb4 hc4 O1 B1 HB2
  go_wp2_with (at_builtin; refine wpList_appL _ rfl _ _ 22 rfl w.heap.size 5 (.int .u8 0) 1 Tryz.underlying22 Tryz.info5 rfl _ 1 1 (bs [1]) rfl O4.out _ _ A4 n4 c4 (bs m) rfl L4.out (bs_one _) (by have := HL4.out; omega) (by have := HL4.out; unfold maxLen; omega) B4.out.size ?_)
  intro A5 c5 w5 hc5 ho5 hg5 hb5 hs5
  have HR : Hid (Row w (1 :: m) (.returned (.slice A5 (1 + n4) c5)) w5) := hid (row_of (by simp [hn4.out]; omega) hc5 ho5 (B4.out.trans hb5))
  clear hc5 ho5 hg5 hb5 hs5 O4 L4 B4
  go_wp2
  go_ret
  exact HR.out

set_option maxRecDepth 20000 in
set_option maxHeartbeats 4000000 in
theorem rput_20 (v : Vl)  (h : vRt v = (2, 0, [], 0)) (hf : vf v < 18446744073709551616) (w : World) :
    Calls Tryz.prog 7 #[(.agg #[.int .i64 (vk v), .int .i64 (vn v), .string (str (vs v)), .int .u64 ((vf v : Nat) : Int)])] w (Row w (vPutR (vRt v))) := by
  have HC := hid (fun wx => rright_at v 2 0 [] 0 h hf wx)
  rw [h]
  have HP : Hid (vPutR (2, 0, [], 0) = [2, 0]) := hid rfl
  rw [HP.out]
  clear h hf HP
  go_enter Tryz.func7, Tryz.ntmps7
  go_wp2_with fail
  refine (HC.out _).mono ?_
  rintro e w2 ⟨rfl, hb2⟩
  have HB2 : Hid (Below w.heap.size w w2) := hid ((bel1 w _).trans (hb2.mono (by simp)))
  clear HC hb2
  have O1 : Hid (((w2.alloc (.cells #[.int .i64 2, .int .i64 0, .string (str []), .int .u64 0] 26)).alloc (.cells #[.int .u8 2] 5)).ownsRow w.heap.size 5 1 (.slice (some ⟨w2.heap.size + 1, 0, none⟩) 1 1) 1 (bs [2])) := hid (own1 w2 _ 2 HB2.out.size)
  have B1 : Hid (Below w.heap.size w ((w2.alloc (.cells #[.int .i64 2, .int .i64 0, .string (str []), .int .u64 0] 26)).alloc (.cells #[.int .u8 2] 5))) := hid ((HB2.out.alloc HB2.out.size _).alloc (by simp; have := HB2.out.size; omega) _)
  have CV : Hid (Blk ((w2.alloc (.cells #[.int .i64 2, .int .i64 0, .string (str []), .int .u64 0] 26)).alloc (.cells #[.int .u8 2] 5)) w2.heap.size 26 #[.int .i64 2, .int .i64 0, .string (str []), .int .u64 0]) := hid ((Blk.new w2 26 _).old _)
  go_upto_region 7 with fail
  generalize (w2.alloc (.cells #[.int .i64 2, .int .i64 0, .string (str []), .int .u64 0] 26)).alloc (.cells #[.int .u8 2] 5) = w3 at *
  obtain ⟨-, x1, -, -, -⟩ := Blk.v4 CV.out
  clear CV
  go_wp2_with (at_builtin; refine wpList_app1 _ rfl _ _ 22 _ rfl w.heap.size 5 (.int .u8 0) 1 Tryz.underlying22 Tryz.info5 rfl _ 1 1 (bs [2]) rfl O1.out _ rfl rfl (by decide) (by decide) B1.out.size ?_)
  intro A5 c5 w5 hc5 ho5 hg5 hb5 hs5
  have HR : Hid (Row w [2, 0] (.returned (.slice A5 2 c5)) w5) := hid (row_of rfl hc5 ho5 (B1.out.trans hb5))
  clear hc5 ho5 hg5 hb5 hs5 O1 B1 HB2
  go_wp2
  go_ret
  exact HR.out

set_option maxRecDepth 20000 in
set_option maxHeartbeats 4000000 in
theorem rput_21 (v : Vl)  (h : vRt v = (2, 1, [], 0)) (hf : vf v < 18446744073709551616) (w : World) :
    Calls Tryz.prog 7 #[(.agg #[.int .i64 (vk v), .int .i64 (vn v), .string (str (vs v)), .int .u64 ((vf v : Nat) : Int)])] w (Row w (vPutR (vRt v))) := by
  have HC := hid (fun wx => rright_at v 2 1 [] 0 h hf wx)
  rw [h]
  have HP : Hid (vPutR (2, 1, [], 0) = [2, 1]) := hid rfl
  rw [HP.out]
  clear h hf HP
  go_enter Tryz.func7, Tryz.ntmps7
  go_wp2_with fail
  refine (HC.out _).mono ?_
  rintro e w2 ⟨rfl, hb2⟩
  have HB2 : Hid (Below w.heap.size w w2) := hid ((bel1 w _).trans (hb2.mono (by simp)))
  clear HC hb2
  have O1 : Hid (((w2.alloc (.cells #[.int .i64 2, .int .i64 1, .string (str []), .int .u64 0] 26)).alloc (.cells #[.int .u8 2] 5)).ownsRow w.heap.size 5 1 (.slice (some ⟨w2.heap.size + 1, 0, none⟩) 1 1) 1 (bs [2])) := hid (own1 w2 _ 2 HB2.out.size)
  have B1 : Hid (Below w.heap.size w ((w2.alloc (.cells #[.int .i64 2, .int .i64 1, .string (str []), .int .u64 0] 26)).alloc (.cells #[.int .u8 2] 5))) := hid ((HB2.out.alloc HB2.out.size _).alloc (by simp; have := HB2.out.size; omega) _)
  have CV : Hid (Blk ((w2.alloc (.cells #[.int .i64 2, .int .i64 1, .string (str []), .int .u64 0] 26)).alloc (.cells #[.int .u8 2] 5)) w2.heap.size 26 #[.int .i64 2, .int .i64 1, .string (str []), .int .u64 0]) := hid ((Blk.new w2 26 _).old _)
  go_upto_region 7 with fail
  generalize (w2.alloc (.cells #[.int .i64 2, .int .i64 1, .string (str []), .int .u64 0] 26)).alloc (.cells #[.int .u8 2] 5) = w3 at *
  obtain ⟨-, x1, -, -, -⟩ := Blk.v4 CV.out
  clear CV
  go_wp2_with (at_builtin; refine wpList_app1 _ rfl _ _ 22 _ rfl w.heap.size 5 (.int .u8 0) 1 Tryz.underlying22 Tryz.info5 rfl _ 1 1 (bs [2]) rfl O1.out _ rfl rfl (by decide) (by decide) B1.out.size ?_)
  intro A5 c5 w5 hc5 ho5 hg5 hb5 hs5
  have HR : Hid (Row w [2, 1] (.returned (.slice A5 2 c5)) w5) := hid (row_of rfl hc5 ho5 (B1.out.trans hb5))
  clear hc5 ho5 hg5 hb5 hs5 O1 B1 HB2
  go_wp2
  go_ret
  exact HR.out

set_option maxRecDepth 20000 in
set_option maxHeartbeats 4000000 in
theorem rput_0 (v : Vl)  (h : vRt v = (0, 0, [], 0)) (hf : vf v < 18446744073709551616) (w : World) :
    Calls Tryz.prog 7 #[(.agg #[.int .i64 (vk v), .int .i64 (vn v), .string (str (vs v)), .int .u64 ((vf v : Nat) : Int)])] w (Row w (vPutR (vRt v))) := by
  have HC := hid (fun wx => rright_at v 0 0 [] 0 h hf wx)
  rw [h]
  have HP : Hid (vPutR (0, 0, [], 0) = [0]) := hid rfl
  rw [HP.out]
  clear h hf HP
  go_enter Tryz.func7, Tryz.ntmps7
  go_wp2_with fail
  refine (HC.out _).mono ?_
  rintro e w2 ⟨rfl, hb2⟩
  have HB2 : Hid (Below w.heap.size w w2) := hid ((bel1 w _).trans (hb2.mono (by simp)))
  clear HC hb2
  have O1 : Hid (((w2.alloc (.cells #[.int .i64 0, .int .i64 0, .string (str []), .int .u64 0] 26)).alloc (.cells #[.int .u8 0] 5)).ownsRow w.heap.size 5 1 (.slice (some ⟨w2.heap.size + 1, 0, none⟩) 1 1) 1 (bs [0])) := hid (own1 w2 _ 0 HB2.out.size)
  have B1 : Hid (Below w.heap.size w ((w2.alloc (.cells #[.int .i64 0, .int .i64 0, .string (str []), .int .u64 0] 26)).alloc (.cells #[.int .u8 0] 5))) := hid ((HB2.out.alloc HB2.out.size _).alloc (by simp; have := HB2.out.size; omega) _)
  have HR : Hid (Row w [0] (.returned (.slice (some ⟨w2.heap.size + 1, 0, none⟩) 1 1)) ((w2.alloc (.cells #[.int .i64 0, .int .i64 0, .string (str []), .int .u64 0] 26)).alloc (.cells #[.int .u8 0] 5))) := hid (row_of rfl (Nat.le_refl _) O1.out B1.out)
  clear O1 B1 HB2
  go_wp2
  go_ret
  exact HR.out

set_option maxRecDepth 20000 in
set_option maxHeartbeats 4000000 in
theorem rput_3 (v : Vl) (s : List UInt8) (hs : s.length ≤ 64) (h : vRt v = (3, 0, s, 0)) (hf : vf v < 18446744073709551616) (w : World) :
    Calls Tryz.prog 7 #[(.agg #[.int .i64 (vk v), .int .i64 (vn v), .string (str (vs v)), .int .u64 ((vf v : Nat) : Int)])] w (Row w (vPutR (vRt v))) := by
  have HC := hid (fun wx => rright_at v 3 0 s 0 h hf wx)
  rw [h]
  have HP : Hid (vPutR (3, 0, s, 0) = 3 :: (nat s.length ++ s)) := hid rfl
  rw [HP.out]
  clear h hf HP
  go_enter Tryz.func7, Tryz.ntmps7
  go_wp2_with fail
  refine (HC.out _).mono ?_
  rintro e w2 ⟨rfl, hb2⟩
  have HB2 : Hid (Below w.heap.size w w2) := hid ((bel1 w _).trans (hb2.mono (by simp)))
  clear HC hb2
  have HS64 := hid hs
  have HNL := hid (nat_len_u64 (n := s.length) (by omega))
  have HNP := hid (nat_pos s.length)
  clear hs
  have O1 : Hid (((w2.alloc (.cells #[.int .i64 3, .int .i64 0, .string (str s), .int .u64 0] 26)).alloc (.cells #[.int .u8 3] 5)).ownsRow w.heap.size 5 1 (.slice (some ⟨w2.heap.size + 1, 0, none⟩) 1 1) 1 (bs [3])) := hid (own1 w2 _ 3 HB2.out.size)
  have B1 : Hid (Below w.heap.size w ((w2.alloc (.cells #[.int .i64 3, .int .i64 0, .string (str s), .int .u64 0] 26)).alloc (.cells #[.int .u8 3] 5))) := hid ((HB2.out.alloc HB2.out.size _).alloc (by simp; have := HB2.out.size; omega) _)
  have CV : Hid (Blk ((w2.alloc (.cells #[.int .i64 3, .int .i64 0, .string (str s), .int .u64 0] 26)).alloc (.cells #[.int .u8 3] 5)) w2.heap.size 26 #[.int .i64 3, .int .i64 0, .string (str s), .int .u64 0]) := hid ((Blk.new w2 26 _).old _)
  have hsz : ((str s).size : Int) = (s.length : Int) := by rw [str_size]
  have hw1 : IntKind.u64.wrap (s.length : Int) = (s.length : Int) := by have := HS64.out; rw [IntKind.wrap_u64]; omega
  go_wp2_with fail
  generalize (w2.alloc (.cells #[.int .i64 3, .int .i64 0, .string (str s), .int .u64 0] 26)).alloc (.cells #[.int .u8 3] 5) = w3 at *
  refine wp_region_held_drew (S := fun wx => Blk wx w2.heap.size 26 #[.int .i64 3, .int .i64 0, .string (str s), .int .u64 0]) (by kernel_rfl) (CV.out.bel (Below.refl _ _).drew CV.out.lt) (fun HS => ?_)
  have O2 : Hid (w3.drew.ownsRow w.heap.size 5 1 (.slice (some ⟨w2.heap.size + 1, 0, none⟩) 1 1) 1 (bs [3])) := hid (vown_keep O1.out (Below.refl _ _).drew)
  have B2 : Hid (Below w.heap.size w w3.drew) := hid (B1.out.drew)
  clear O1 B1 CV
  generalize w3.drew = w4 at *
  refine wpAnyH_take (i := 0) (oi := ?oi0) (v := ?v0) ?hi0 (by kernel_rfl) (by kernel_rfl) (by kernel_rfl) ?hQ0 ?hy0 HS ?rest0
  case hi0 => simp only [List.getElem?_toArray, List.getElem?_cons_zero]; exact rfl
  case hQ0 => exact fun _ _ _ h => h
  case hy0 =>
    refine Or.inl ⟨by rfl, ?_⟩
    intro wS hSw
    go_simp
    try with_reducible rfl
  try simp only [Act.put, List.setIfInBounds_toArray, List.set_cons_zero, List.set_cons_succ]
  refine wpAnyH_take (i := 1) (oi := ?oi1) (v := ?v1) ?hi1 (by kernel_rfl) (by kernel_rfl) (by kernel_rfl) ?hQ1 ?hy1 HS ?rest1
  case hi1 => simp only [List.getElem?_toArray, List.getElem?_cons_succ, List.getElem?_cons_zero]; exact rfl
  case hQ1 => exact fun _ _ _ h => h
  case hy1 =>
    refine Or.inl ⟨by rfl, ?_⟩
    intro wS hSw
    go_simp
    try with_reducible rfl
  try simp only [Act.put, List.setIfInBounds_toArray, List.set_cons_zero, List.set_cons_succ]
  refine wpAnyH_take (i := 2) (oi := ?oi2) (v := ?v2) ?hi2 (by kernel_rfl) (by kernel_rfl) (by kernel_rfl) ?hQ2 ?hy2 HS ?rest2
  case hi2 => simp only [List.getElem?_toArray, List.getElem?_cons_succ, List.getElem?_cons_zero]; exact rfl
  case hQ2 => exact fun _ _ _ h => h
  case hy2 =>
    refine Or.inl ⟨by rfl, ?_⟩
    intro wS hSw
    obtain ⟨-, -, z2, -, -⟩ := Blk.v4 hSw
    go_simp
    try with_reducible rfl
  try simp only [Act.put, List.setIfInBounds_toArray, List.set_cons_zero, List.set_cons_succ]
  refine wpAnyH_take (i := 3) (oi := ?oi3) (v := ?v3) ?hi3 (by kernel_rfl) (by kernel_rfl) (by kernel_rfl) ?hQ3 ?hy3 HS ?rest3
  case hi3 => simp only [List.getElem?_toArray, List.getElem?_cons_succ, List.getElem?_cons_zero]; exact rfl
  case hQ3 => exact fun _ _ _ h => h
  case hy3 =>
    refine Or.inl ⟨by rfl, ?_⟩
    intro wS hSw
    go_simp
    try with_reducible rfl
  try simp only [Act.put, List.setIfInBounds_toArray, List.set_cons_zero, List.set_cons_succ]
  refine wpAnyH_take (i := 4) (oi := ?oi4) (v := ?v4) ?hi4 (by kernel_rfl) (by kernel_rfl) (by kernel_rfl) ?hQ4 ?hy4 HS ?rest4
  case hi4 => simp only [List.getElem?_toArray, List.getElem?_cons_succ, List.getElem?_cons_zero]; exact rfl
  case hQ4 => exact fun _ _ _ h => h
  case hy4 =>
    refine Or.inl ⟨by rfl, ?_⟩
    intro wS hSw
    go_simp
    try with_reducible rfl
  try simp only [Act.put, List.setIfInBounds_toArray, List.set_cons_zero, List.set_cons_succ]
  refine wpAnyH_take (i := 7) (oi := ?oi7) (v := ?v7) ?hi7 (by kernel_rfl) (by kernel_rfl) (by kernel_rfl) ?hQ7 ?hy7 HS ?rest7
  case hi7 => simp only [List.getElem?_toArray, List.getElem?_cons_succ, List.getElem?_cons_zero]; exact rfl
  case hQ7 => exact fun _ _ _ h => h
  case hy7 =>
    refine Or.inl ⟨by rfl, ?_⟩
    intro wS hSw
    go_simp
    try with_reducible rfl
  try simp only [Act.put, List.setIfInBounds_toArray, List.set_cons_zero, List.set_cons_succ]
  refine wpAnyH_take (i := 8) (oi := ?oi8) (v := ?v8) ?hi8 (by kernel_rfl) (by kernel_rfl) (by kernel_rfl) ?hQ8 ?hy8 HS ?rest8
  case hi8 => simp only [List.getElem?_toArray, List.getElem?_cons_succ, List.getElem?_cons_zero]; exact rfl
  case hQ8 => exact fun _ _ _ h => h
  case hy8 =>
    refine Or.inl ⟨by rfl, ?_⟩
    intro wS hSw
    obtain ⟨-, -, z2, -, -⟩ := Blk.v4 hSw
    go_simp
    try with_reducible rfl
  try simp only [Act.put, List.setIfInBounds_toArray, List.set_cons_zero, List.set_cons_succ]
  refine wpAnyH_ready (rs := [5]) (by kernel_rfl) (by simp) ?_
  refine AllReadyH.cons (o := ?o5) ?ho5 (fun K hK => ?step5) AllReadyH.nil
  case ho5 => simp only [List.getElem?_toArray, List.getElem?_cons_succ, List.getElem?_cons_zero]; exact rfl
  go_simp
  refine (refNatural_c _ s.length w4 (Nat.le_refl _) (by have := HS64.out; omega)).mono ?_
  intro e w5 hrow
  obtain ⟨A5, n5, c5, rfl, hn5, hc5, ho5, hbt5, hb5⟩ := hrow.out
  have HN5 : Hid (n5 ≤ 10 ∧ 0 < n5) := hid (by have := hn5.out; have := HNL.out; have := HNP.out; omega)
  have O5 := hid (vown_keep O2.out hb5)
  have B5 : Hid (Below w.heap.size w w5) := hid (B2.out.trans (hb5.mono B2.out.size))
  obtain ⟨ab, hA5, -, -, -⟩ := own_some ho5 HN5.out.2
  subst hA5
  have R5 : Hid (w5.rangeAt ab 0 (bs (nat s.length))) := hid (by
    obtain ⟨ab', off, hA, _, _, hr⟩ := hbt5.lst.2 HN5.out.2
    injection hA with hA
    injection hA with hA hO
    subst hA hO
    exact hr)
  have HL5 := hn5
  clear hrow ho5 hbt5 hc5 hn5
  refine hK.out _ _ (HS.bel hb5 HS.lt) (fun HS => ?_)
  clear hK K
  try simp only [Act.put, List.setIfInBounds_toArray, List.set_cons_zero, List.set_cons_succ]
  refine wpAnyH_ready (rs := [6]) (by kernel_rfl) (by simp) ?_
  refine AllReadyH.cons (o := ?o6) ?ho6 (fun K hK => ?step6) AllReadyH.nil
  case ho6 => simp only [List.getElem?_toArray, List.getElem?_cons_succ, List.getElem?_cons_zero]; exact rfl
  rw [if_pos (by rfl)]
  refine wp_appL _ _ rfl w.heap.size _ 1 1 (bs [3]) rfl O5.out ab 0 n5 c5 (bs (nat s.length)) rfl (by rw [bs_len]; exact HL5.out) R5.out (bs_one _) (by have := HN5.out; omega) B5.out.size ?_
  intro A6 c6 w6 hc6 ho6 hb6 hg6
  have O6 := hid ho6
  have B6 := hid (B5.out.trans hb6)
  refine hK.out _ _ (blk_row O5.out HS hg6) (fun HS => ?_)
  clear hK K
  try simp only [Act.put, List.setIfInBounds_toArray, List.set_cons_zero, List.set_cons_succ]
  clear hc6 ho6 hb6 hg6 O5 R5
  refine wpAnyH_ready (rs := [9]) (by kernel_rfl) (by simp) ?_
  refine AllReadyH.cons (o := ?o9) ?ho9 (fun K hK => ?step9) AllReadyH.nil
  case ho9 => simp only [List.getElem?_toArray, List.getElem?_cons_succ, List.getElem?_cons_zero]; exact rfl
  rw [if_pos (by rfl)]
  refine wp_appS _ _ rfl w.heap.size A6 (1 + n5) c6 (bs [3] ++ bs (nat s.length)) rfl O6.out s rfl (by have := HN5.out; have := HS64.out; omega) B6.out.size ?_
  intro A7 c7 w7 hc7 ho7 hb7 hg7
  have HR : Hid (Row w (3 :: (nat s.length ++ s)) (.returned (.slice A7 (1 + n5 + s.length) c7)) w7) := hid (row_of (by have := HL5.out; simp; omega) hc7 (by have := ho7; rw [← bs_app, ← bs_app] at this; exact this) (B6.out.trans hb7))
  refine hK.out _ _ (blk_row O6.out HS hg7) (fun HS => ?_)
  clear hK K
  try simp only [Act.put, List.setIfInBounds_toArray, List.set_cons_zero, List.set_cons_succ]
  clear hc7 ho7 hb7 hg7 O6 B6
  refine wpAnyH_take (i := 10) (oi := ?oi10) (v := ?v10) ?hi10 (by kernel_rfl) (by kernel_rfl) (by kernel_rfl) ?hQ10 ?hy10 HS ?rest10
  case hi10 => simp only [List.getElem?_toArray, List.getElem?_cons_succ, List.getElem?_cons_zero]; exact rfl
  case hQ10 => exact fun _ _ _ h => h
  case hy10 =>
    refine Or.inl ⟨by rfl, ?_⟩
    intro wS hSw
    go_simp
    try with_reducible rfl
  try simp only [Act.put, List.setIfInBounds_toArray, List.set_cons_zero, List.set_cons_succ]
  refine wpAnyH_done (by kernel_rfl) ?_ _
  clear HS
  generalize nat s.length = m at *
  go_wp2
  go_ret
  exact HR.out

set_option maxRecDepth 20000 in
set_option maxHeartbeats 4000000 in
theorem rput_4 (v : Vl) (f : Nat) (hu : f < 18446744073709551616) (h : vRt v = (4, 0, [], f)) (hf : vf v < 18446744073709551616) (w : World) :
    Calls Tryz.prog 7 #[(.agg #[.int .i64 (vk v), .int .i64 (vn v), .string (str (vs v)), .int .u64 ((vf v : Nat) : Int)])] w (Row w (vPutR (vRt v))) := by
  have HC := hid (fun wx => rright_at v 4 0 [] f h hf wx)
  rw [h]
  have HP : Hid (vPutR (4, 0, [], f) = 4 :: leN 8 f) := hid rfl
  rw [HP.out]
  clear h hf HP
  go_enter Tryz.func7, Tryz.ntmps7
  go_wp2_with fail
  refine (HC.out _).mono ?_
  rintro e w2 ⟨rfl, hb2⟩
  have HB2 : Hid (Below w.heap.size w w2) := hid ((bel1 w _).trans (hb2.mono (by simp)))
  clear HC hb2
  have HU := hid hu
  clear hu
  have O1 : Hid (((w2.alloc (.cells #[.int .i64 4, .int .i64 0, .string (str []), .int .u64 (f : Int)] 26)).alloc (.cells #[.int .u8 4] 5)).ownsRow w.heap.size 5 1 (.slice (some ⟨w2.heap.size + 1, 0, none⟩) 1 1) 1 (bs [4])) := hid (own1 w2 _ 4 HB2.out.size)
  have B1 : Hid (Below w.heap.size w ((w2.alloc (.cells #[.int .i64 4, .int .i64 0, .string (str []), .int .u64 (f : Int)] 26)).alloc (.cells #[.int .u8 4] 5))) := hid ((HB2.out.alloc HB2.out.size _).alloc (by simp; have := HB2.out.size; omega) _)
  have CV : Hid (Blk ((w2.alloc (.cells #[.int .i64 4, .int .i64 0, .string (str []), .int .u64 (f : Int)] 26)).alloc (.cells #[.int .u8 4] 5)) w2.heap.size 26 #[.int .i64 4, .int .i64 0, .string (str []), .int .u64 (f : Int)]) := hid ((Blk.new w2 26 _).old _)
  have HV2 : Hid (w.heap.size ≤ w2.heap.size) := hid HB2.out.size
  go_wp2_with fail
  generalize (w2.alloc (.cells #[.int .i64 4, .int .i64 0, .string (str []), .int .u64 (f : Int)] 26)).alloc (.cells #[.int .u8 4] 5) = w3 at *
  generalize hvb : w2.heap.size = vb at *
  clear hvb HB2
  go_loopw [4, 5] (fun ov iv wr => ∃ (A' : Option Addr) (c' j : Nat), iv = .int .i64 (j : Int) ∧ ov = .slice A' (1 + j) c' ∧ Hid (wr.ownsRow w.heap.size 5 1 (.slice A' (1 + j) c') (1 + j) (bs [4] ++ bs ((leN 8 f).take j))) ∧ Hid (1 + j ≤ c') ∧ Hid (Below w.heap.size w wr) ∧ Hid (j ≤ 8) ∧ Hid (Blk wr vb 26 #[.int .i64 4, .int .i64 0, .string (str []), .int .u64 (f : Int)])) (fun _ iv _ => 8 - (intOf iv).toNat)
  case atStart => exact ⟨_, 1, 0, rfl, rfl, hid (by simpa [bs] using O1.out), hid (by decide), B1, hid (by decide), CV⟩
  case round =>
    obtain ⟨A', c', j, rfl, rfl, hown, hcc, hbel, hj, hcv⟩ := hrel
    have hcases : j = 0 ∨ j = 1 ∨ j = 2 ∨ j = 3 ∨ j = 4 ∨ j = 5 ∨ j = 6 ∨ j = 7 ∨ j = 8 := by have := hj.out; omega
    clear O1 B1 CV
    obtain ⟨-, -, -, x3, -⟩ := Blk.v4 hcv.out
    rcases hcases with rfl | rfl | rfl | rfl | rfl | rfl | rfl | rfl | rfl
    · obtain ⟨b, hb⟩ : ∃ b, b = f / 256 ^ 0 % 256 := ⟨_, rfl⟩
      have e1 : (f : Int) % 256 = (b : Int) := by rw [hb]; omega
      have HT := hid (le_take (u := f) (j := 0) (by decide) hb)
      clear hb
      as_aux_lemma =>
      go_wp2_with (at_builtin; refine wpList_app1 _ rfl _ _ 22 _ rfl w.heap.size 5 (.int .u8 0) 1 Tryz.underlying22 Tryz.info5 rfl _ _ _ _ rfl hown.out _ rfl rfl (by decide) (by decide) hbel.out.size ?_)
      intro A2 c2 w5 hc2 hown2 hg2 hb2 hbs2
      have HO : Hid (w5.ownsRow w.heap.size 5 1 (.slice A2 (1 + 1) c2) (1 + 1) (bs [4] ++ bs ((leN 8 f).take 1))) := hid (by rw [HT.out, ← List.append_assoc]; exact hown2)
      have HB5 := hid (hbel.out.trans hb2)
      have HX5 : Hid (Blk w5 vb 26 #[.int .i64 4, .int .i64 0, .string (str []), .int .u64 (f : Int)]) := hid (blk_row hown.out hcv.out hg2)
      have HC5 := hid hc2
      clear hown2 hown hg2 hb2 hbs2 hc2
      go_wp2
      exact ⟨⟨A2, c2, 1, rfl, rfl, HO, HC5, HB5, hid (by decide), HX5⟩, by decide⟩
    · obtain ⟨b, hb⟩ : ∃ b, b = f / 256 ^ 1 % 256 := ⟨_, rfl⟩
      have e1 : (f : Int) / 256 % 256 = (b : Int) := by rw [hb]; omega
      have HT := hid (le_take (u := f) (j := 1) (by decide) hb)
      clear hb
      as_aux_lemma =>
      go_wp2_with (at_builtin; refine wpList_app1 _ rfl _ _ 22 _ rfl w.heap.size 5 (.int .u8 0) 1 Tryz.underlying22 Tryz.info5 rfl _ _ _ _ rfl hown.out _ rfl rfl (by decide) (by decide) hbel.out.size ?_)
      intro A2 c2 w5 hc2 hown2 hg2 hb2 hbs2
      have HO : Hid (w5.ownsRow w.heap.size 5 1 (.slice A2 (1 + 2) c2) (1 + 2) (bs [4] ++ bs ((leN 8 f).take 2))) := hid (by rw [HT.out, ← List.append_assoc]; exact hown2)
      have HB5 := hid (hbel.out.trans hb2)
      have HX5 : Hid (Blk w5 vb 26 #[.int .i64 4, .int .i64 0, .string (str []), .int .u64 (f : Int)]) := hid (blk_row hown.out hcv.out hg2)
      have HC5 := hid hc2
      clear hown2 hown hg2 hb2 hbs2 hc2
      go_wp2
      exact ⟨⟨A2, c2, 2, rfl, rfl, HO, HC5, HB5, hid (by decide), HX5⟩, by decide⟩
    · obtain ⟨b, hb⟩ : ∃ b, b = f / 256 ^ 2 % 256 := ⟨_, rfl⟩
      have e1 : (f : Int) / 65536 % 256 = (b : Int) := by rw [hb]; omega
      have HT := hid (le_take (u := f) (j := 2) (by decide) hb)
      clear hb
      as_aux_lemma =>
      go_wp2_with (at_builtin; refine wpList_app1 _ rfl _ _ 22 _ rfl w.heap.size 5 (.int .u8 0) 1 Tryz.underlying22 Tryz.info5 rfl _ _ _ _ rfl hown.out _ rfl rfl (by decide) (by decide) hbel.out.size ?_)
      intro A2 c2 w5 hc2 hown2 hg2 hb2 hbs2
      have HO : Hid (w5.ownsRow w.heap.size 5 1 (.slice A2 (1 + 3) c2) (1 + 3) (bs [4] ++ bs ((leN 8 f).take 3))) := hid (by rw [HT.out, ← List.append_assoc]; exact hown2)
      have HB5 := hid (hbel.out.trans hb2)
      have HX5 : Hid (Blk w5 vb 26 #[.int .i64 4, .int .i64 0, .string (str []), .int .u64 (f : Int)]) := hid (blk_row hown.out hcv.out hg2)
      have HC5 := hid hc2
      clear hown2 hown hg2 hb2 hbs2 hc2
      go_wp2
      exact ⟨⟨A2, c2, 3, rfl, rfl, HO, HC5, HB5, hid (by decide), HX5⟩, by decide⟩
    · obtain ⟨b, hb⟩ : ∃ b, b = f / 256 ^ 3 % 256 := ⟨_, rfl⟩
      have e1 : (f : Int) / 16777216 % 256 = (b : Int) := by rw [hb]; omega
      have HT := hid (le_take (u := f) (j := 3) (by decide) hb)
      clear hb
      as_aux_lemma =>
      go_wp2_with (at_builtin; refine wpList_app1 _ rfl _ _ 22 _ rfl w.heap.size 5 (.int .u8 0) 1 Tryz.underlying22 Tryz.info5 rfl _ _ _ _ rfl hown.out _ rfl rfl (by decide) (by decide) hbel.out.size ?_)
      intro A2 c2 w5 hc2 hown2 hg2 hb2 hbs2
      have HO : Hid (w5.ownsRow w.heap.size 5 1 (.slice A2 (1 + 4) c2) (1 + 4) (bs [4] ++ bs ((leN 8 f).take 4))) := hid (by rw [HT.out, ← List.append_assoc]; exact hown2)
      have HB5 := hid (hbel.out.trans hb2)
      have HX5 : Hid (Blk w5 vb 26 #[.int .i64 4, .int .i64 0, .string (str []), .int .u64 (f : Int)]) := hid (blk_row hown.out hcv.out hg2)
      have HC5 := hid hc2
      clear hown2 hown hg2 hb2 hbs2 hc2
      go_wp2
      exact ⟨⟨A2, c2, 4, rfl, rfl, HO, HC5, HB5, hid (by decide), HX5⟩, by decide⟩
    · obtain ⟨b, hb⟩ : ∃ b, b = f / 256 ^ 4 % 256 := ⟨_, rfl⟩
      have e1 : (f : Int) / 4294967296 % 256 = (b : Int) := by rw [hb]; omega
      have HT := hid (le_take (u := f) (j := 4) (by decide) hb)
      clear hb
      as_aux_lemma =>
      go_wp2_with (at_builtin; refine wpList_app1 _ rfl _ _ 22 _ rfl w.heap.size 5 (.int .u8 0) 1 Tryz.underlying22 Tryz.info5 rfl _ _ _ _ rfl hown.out _ rfl rfl (by decide) (by decide) hbel.out.size ?_)
      intro A2 c2 w5 hc2 hown2 hg2 hb2 hbs2
      have HO : Hid (w5.ownsRow w.heap.size 5 1 (.slice A2 (1 + 5) c2) (1 + 5) (bs [4] ++ bs ((leN 8 f).take 5))) := hid (by rw [HT.out, ← List.append_assoc]; exact hown2)
      have HB5 := hid (hbel.out.trans hb2)
      have HX5 : Hid (Blk w5 vb 26 #[.int .i64 4, .int .i64 0, .string (str []), .int .u64 (f : Int)]) := hid (blk_row hown.out hcv.out hg2)
      have HC5 := hid hc2
      clear hown2 hown hg2 hb2 hbs2 hc2
      go_wp2
      exact ⟨⟨A2, c2, 5, rfl, rfl, HO, HC5, HB5, hid (by decide), HX5⟩, by decide⟩
    · obtain ⟨b, hb⟩ : ∃ b, b = f / 256 ^ 5 % 256 := ⟨_, rfl⟩
      have e1 : (f : Int) / 1099511627776 % 256 = (b : Int) := by rw [hb]; omega
      have HT := hid (le_take (u := f) (j := 5) (by decide) hb)
      clear hb
      as_aux_lemma =>
      go_wp2_with (at_builtin; refine wpList_app1 _ rfl _ _ 22 _ rfl w.heap.size 5 (.int .u8 0) 1 Tryz.underlying22 Tryz.info5 rfl _ _ _ _ rfl hown.out _ rfl rfl (by decide) (by decide) hbel.out.size ?_)
      intro A2 c2 w5 hc2 hown2 hg2 hb2 hbs2
      have HO : Hid (w5.ownsRow w.heap.size 5 1 (.slice A2 (1 + 6) c2) (1 + 6) (bs [4] ++ bs ((leN 8 f).take 6))) := hid (by rw [HT.out, ← List.append_assoc]; exact hown2)
      have HB5 := hid (hbel.out.trans hb2)
      have HX5 : Hid (Blk w5 vb 26 #[.int .i64 4, .int .i64 0, .string (str []), .int .u64 (f : Int)]) := hid (blk_row hown.out hcv.out hg2)
      have HC5 := hid hc2
      clear hown2 hown hg2 hb2 hbs2 hc2
      go_wp2
      exact ⟨⟨A2, c2, 6, rfl, rfl, HO, HC5, HB5, hid (by decide), HX5⟩, by decide⟩
    · obtain ⟨b, hb⟩ : ∃ b, b = f / 256 ^ 6 % 256 := ⟨_, rfl⟩
      have e1 : (f : Int) / 281474976710656 % 256 = (b : Int) := by rw [hb]; omega
      have HT := hid (le_take (u := f) (j := 6) (by decide) hb)
      clear hb
      as_aux_lemma =>
      go_wp2_with (at_builtin; refine wpList_app1 _ rfl _ _ 22 _ rfl w.heap.size 5 (.int .u8 0) 1 Tryz.underlying22 Tryz.info5 rfl _ _ _ _ rfl hown.out _ rfl rfl (by decide) (by decide) hbel.out.size ?_)
      intro A2 c2 w5 hc2 hown2 hg2 hb2 hbs2
      have HO : Hid (w5.ownsRow w.heap.size 5 1 (.slice A2 (1 + 7) c2) (1 + 7) (bs [4] ++ bs ((leN 8 f).take 7))) := hid (by rw [HT.out, ← List.append_assoc]; exact hown2)
      have HB5 := hid (hbel.out.trans hb2)
      have HX5 : Hid (Blk w5 vb 26 #[.int .i64 4, .int .i64 0, .string (str []), .int .u64 (f : Int)]) := hid (blk_row hown.out hcv.out hg2)
      have HC5 := hid hc2
      clear hown2 hown hg2 hb2 hbs2 hc2
      go_wp2
      exact ⟨⟨A2, c2, 7, rfl, rfl, HO, HC5, HB5, hid (by decide), HX5⟩, by decide⟩
    · obtain ⟨b, hb⟩ : ∃ b, b = f / 256 ^ 7 % 256 := ⟨_, rfl⟩
      have e1 : (f : Int) / 72057594037927936 % 256 = (b : Int) := by rw [hb]; omega
      have HT := hid (le_take (u := f) (j := 7) (by decide) hb)
      clear hb
      as_aux_lemma =>
      go_wp2_with (at_builtin; refine wpList_app1 _ rfl _ _ 22 _ rfl w.heap.size 5 (.int .u8 0) 1 Tryz.underlying22 Tryz.info5 rfl _ _ _ _ rfl hown.out _ rfl rfl (by decide) (by decide) hbel.out.size ?_)
      intro A2 c2 w5 hc2 hown2 hg2 hb2 hbs2
      have HO : Hid (w5.ownsRow w.heap.size 5 1 (.slice A2 (1 + 8) c2) (1 + 8) (bs [4] ++ bs ((leN 8 f).take 8))) := hid (by rw [HT.out, ← List.append_assoc]; exact hown2)
      have HB5 := hid (hbel.out.trans hb2)
      have HX5 : Hid (Blk w5 vb 26 #[.int .i64 4, .int .i64 0, .string (str []), .int .u64 (f : Int)]) := hid (blk_row hown.out hcv.out hg2)
      have HC5 := hid hc2
      clear hown2 hown hg2 hb2 hbs2 hc2
      go_wp2
      exact ⟨⟨A2, c2, 8, rfl, rfl, HO, HC5, HB5, hid (by decide), HX5⟩, by decide⟩
    · have HR : Hid (Row w (4 :: leN 8 f) (.returned (.slice A' 9 c')) wr) := hid (row_of (by rw [List.length_cons, leN_len]) (show 9 ≤ c' from hcc.out) (by have := hown.out; rw [List.take_of_length_le (by rw [leN_len]; exact Nat.le_refl _), ← bs_app] at this; exact this) hbel.out)
      clear hown hbel hcv
      go_wp2
      go_ret
      exact HR.out

theorem rput_c (v : Vl) (w : World) (hf : vf v < 18446744073709551616) (n1 : -9223372036854775808 ≤ vn v) (n2 : vn v ≤ 9223372036854775807) :
    Calls Tryz.prog 7 #[(.agg #[.int .i64 (vk v), .int .i64 (vn v), .string (str (vs v)), .int .u64 ((vf v : Nat) : Int)])] w (Row w (vPutR (vRt v))) := by
  have h1 := vRt_n1 n1
  have h2 := vRt_n2 n2
  have h3 := vRt_f hf
  rcases vRight_cases (vRt_right v) with h | ⟨n, h⟩ | h | h | ⟨s, hs, h⟩ | ⟨f, hc, h⟩
  · exact rput_0 v h hf w
  · rw [h] at h1 h2
    exact rput_1 v n h1 h2 h hf w
  · exact rput_20 v h hf w
  · exact rput_21 v h hf w
  · exact rput_3 v s hs h hf w
  · rw [h] at h3
    exact rput_4 v f h3 h hf w

end Go.Proofs.YtfjpnkchldjjmaaGreatDoor
