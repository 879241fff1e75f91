/- A vault and blocks that are none of its; what the law's own first answers. -/
import Derived.Test.YtaailoodhaibiaaVtDes
namespace Go.Proofs.Ytaailoodhaibiaa
open Go.RowKit

/-- A vault, new since w; the blocks of X are none of its. -/
def VOn (w wr : World) (g : Nat) (s : Va) (X : Nat → Prop) : Prop := ∃ F, Vlt wr F g s ∧ (∀ j, F j → w.heap.size ≤ j) ∧ Below w.heap.size w wr ∧ ∀ x, X x → ¬ F x ∧ x < wr.heap.size ∧ w.heap.size ≤ x
section
variable {w wr : World} {g : Nat} {s : Va} {X : Nat → Prop}
theorem VOn.below (h : VOn w wr g s X) : Below w.heap.size w wr := by
  obtain ⟨F, _, _, h, _⟩ := h
  exact h
theorem VOn.bel (h : VOn w wr g s X) {wr' : World} (hb : Below wr.heap.size wr wr') : VOn w wr' g s X := by
  obtain ⟨F, h1, h2, h3, h4⟩ := h
  exact ⟨F, h1.bel hb, h2, h3.trans (hb.mono h3.size), fun x hx => ⟨(h4 x hx).1, Nat.lt_of_lt_of_le (h4 x hx).2.1 hb.size, (h4 x hx).2.2⟩⟩
theorem VOn.add (h : VOn w wr g s X) {w2 : World} (hb : Below wr.heap.size wr w2) (Y : Nat → Prop) (hY : ∀ x, Y x → wr.heap.size ≤ x ∧ x < w2.heap.size) : VOn w w2 g s (fun x => X x ∨ Y x) := by
  obtain ⟨F, h1, h2, h3, h4⟩ := h
  refine ⟨F, h1.bel hb, h2, h3.trans (hb.mono h3.size), fun x hx => ?_⟩
  rcases hx with hx | hx
  · exact ⟨(h4 x hx).1, Nat.lt_of_lt_of_le (h4 x hx).2.1 hb.size, (h4 x hx).2.2⟩
  · have := hY x hx
    have := h3.size
    exact ⟨fun e => by have := h1.lt x e; omega, by omega, by omega⟩
theorem VOn.less (h : VOn w wr g s X) {Y : Nat → Prop} (hY : ∀ x, Y x → X x) : VOn w wr g s Y := by
  obtain ⟨F, h1, h2, h3, h4⟩ := h
  exact ⟨F, h1, h2, h3, fun x hx => h4 x (hY x hx)⟩
theorem VOn.set (h : VOn w wr g s X) {v : Nat} (hv : X v) (o : Nat) (u : Value) : VOn w (wr.setCell ⟨v, o, none⟩ u) g s X := by
  obtain ⟨F, h1, h2, h3, h4⟩ := h
  have hg := grown_setCell wr v o u
  obtain ⟨a1, a2, a3⟩ := h4 v hv
  exact ⟨F, h1.keep hg.size fun j hj => hg.block j (h1.lt j hj) (fun e => a1 (by injection e with e; rw [← e]; exact hj)), h2, h3.grown hg h3.size (fun k hk => by injection hk with hk; omega), fun x hx => ⟨(h4 x hx).1, Nat.lt_of_lt_of_le (h4 x hx).2.1 hg.size, (h4 x hx).2.2⟩⟩
theorem VOn.lt (h : VOn w wr g s X) {x : Nat} (hx : X x) : x < wr.heap.size := by
  obtain ⟨F, h1, h2, h3, h4⟩ := h
  exact (h4 x hx).2.1
theorem VOn.ge (h : VOn w wr g s X) {x : Nat} (hx : X x) : w.heap.size ≤ x := by
  obtain ⟨F, h1, h2, h3, h4⟩ := h
  exact (h4 x hx).2.2
theorem VOn.one (h : VOn w wr g s X) : ∃ F, Vlt wr F g s ∧ ∀ wr' s', VLeft wr wr' F g s' → VOn w wr' g s' X ∧ wr.heap.size ≤ wr'.heap.size ∧ ∀ x, X x → wr'.heap[x]? = wr.heap[x]? := by
  obtain ⟨F, h1, h2, h3, h4⟩ := h
  refine ⟨F, h1, fun wr' s' hL => ?_⟩
  obtain ⟨F', hd, hk, hF'⟩ := hL
  refine ⟨⟨F', hd, fun j hj => ?_, h3.trans (hk.below h2 h3.size), fun x hx => ?_⟩, hk.size, fun x hx => hk.block x (h4 x hx).2.1 (h4 x hx).1⟩
  · rcases hF' j hj with e | e
    · exact h2 j e
    · have := h3.size; omega
  · obtain ⟨a1, a2, a3⟩ := h4 x hx
    exact ⟨fun e => by rcases hF' x e with e | e; exact a1 e; omega, Nat.lt_of_lt_of_le a2 hk.size, a3⟩
end
/-- Each call, with what it leaves. -/
theorem seal_on (w wr : World) (g : Nat) (s : Va) (X : Nat → Prop) (h : VOn w wr g s X) (k : Ky) (hk : k.wf) (b : List UInt8) (PA : Option Addr) (n pc : Nat) (l : List UInt8) (hp : Bts wr 0 wr.heap.size PA n l) (hL : s.L.length ≤ 1000000) :
    Calls Try.prog 9 #[.pointer (some ⟨g, 0, none⟩), (.agg #[.int .i64 (k).t, .int .i64 (k).c, .int .i64 (k).e]), .string (str b), .slice PA n pc] wr fun e w' => e = .returned (.tuple #[.int .u64 (seH s k l.length : Int), .int .i64 (seE s k l.length)]) ∧ VOn w w' g (seS s k b l) X ∧ ∀ x, X x → w'.heap[x]? = wr.heap[x]? := by
  obtain ⟨F, h1, h2⟩ := h.one
  refine (seal_any wr F g s h1 k hk b PA n pc l hp hL).mono ?_
  rintro e w' ⟨rfl, hl⟩
  obtain ⟨h3, _, h4⟩ := h2 _ _ hl
  exact ⟨rfl, h3, h4⟩
theorem destroy_on (w wr : World) (g : Nat) (s : Va) (X : Nat → Prop) (h : VOn w wr g s X) (k : Ky) (hk : k.wf) (hL : s.L.length ≤ 1000000) (hG : s.G.length ≤ 1000000) :
    Calls Try.prog 13 #[.pointer (some ⟨g, 0, none⟩), (.agg #[.int .i64 (k).t, .int .i64 (k).c, .int .i64 (k).e])] wr fun e w' => e = .returned (.tuple #[]) ∧ VOn w w' g (s.destroy k) X ∧ ∀ x, X x → w'.heap[x]? = wr.heap[x]? := by
  obtain ⟨F, h1, h2⟩ := h.one
  refine (destroy_any wr F g s h1 k hk hL hG).mono ?_
  rintro e w' ⟨rfl, hl⟩
  obtain ⟨h3, _, h4⟩ := h2 _ _ hl
  exact ⟨rfl, h3, h4⟩
theorem open_on (w wr : World) (g : Nat) (s : Va) (X : Nat → Prop) (h : VOn w wr g s X) (k : Ky) (hk : k.wf) (b : List UInt8) (H : Int) (hd : Nat) (hH : H = (hd : Int)) (hh : hd < 18446744073709551616) :
    Calls Try.prog 11 #[.pointer (some ⟨g, 0, none⟩), (.agg #[.int .i64 (k).t, .int .i64 (k).c, .int .i64 (k).e]), .string (str b), .int .u64 H] wr fun e w' => ∃ A n c, e = .returned (.tuple #[.slice A n c, .int .i64 (opE s k b hd)]) ∧ w'.ownsRow wr.heap.size 5 1 (.slice A n c) n (bs (opB s k b hd)) ∧ n ≤ 65536 ∧ Below wr.heap.size wr w' := by
  obtain ⟨F, h1, _⟩ := h.one
  exact open_any wr F g s h1 k hk b H hd hH hh
theorem sealed_on (w wr : World) (g : Nat) (s : Va) (X : Nat → Prop) (h : VOn w wr g s X) :
    Calls Try.prog 15 #[.pointer (some ⟨g, 0, none⟩)] wr fun e w' => e = .returned (.int .i64 (s.L.length : Int)) ∧ wr = w' := by
  obtain ⟨F, h1, _⟩ := h.one
  exact sealed_c wr F g s h1
theorem new_on (w wr : World) (hb : Below w.heap.size w wr) (X : Nat → Prop) (hX : ∀ x, X x → x < wr.heap.size ∧ w.heap.size ≤ x) : Calls Try.prog 8 #[] wr fun e w' => ∃ g, e = .returned (.pointer (some ⟨g, 0, none⟩)) ∧ VOn w w' g Va.new X ∧ Below wr.heap.size wr w' := by
  refine (vnew_c wr).mono ?_
  rintro e w' ⟨g, F, rfl, h1, h2, h3⟩
  exact ⟨g, rfl, ⟨F, h1, fun j hj => Nat.le_trans hb.size (h3 j hj), hb.trans (h2.mono hb.size), fun x hx => ⟨fun e => by have := h3 x e; have := (hX x hx).1; omega, Nat.lt_of_lt_of_le (hX x hx).1 h2.size, (hX x hx).2⟩⟩, h2⟩
theorem own_str {w : World} {base : Nat} {A : Option Addr} {n c : Nat} {l : List UInt8} (h : w.ownsRow base 5 1 (.slice A n c) n (bs l)) : (convert 33 9 (.slice A n c)).run Try.prog w = .ok (.string (str l)) w := run_str _ _ _ Try.underlying33 Try.underlying5 Try.underlying9 (Bts.own h)

theorem Bts.lit2 (w : World) (o : Obj) (e : TypeId) (l : List UInt8) (m : Nat × Nat) : Bts ((w.alloc o).alloc (.cells (bs l).toArray e m)) 0 ((w.alloc o).alloc (.cells (bs l).toArray e m)).heap.size (some ⟨w.heap.size + 1, 0, none⟩) l.length l := by
  have := Bts.litM (w.alloc o) e l m
  rw [show (w.alloc o).heap.size = w.heap.size + 1 by simp] at this
  exact this.wide (Nat.zero_le _) (by simp)
theorem conv2 (w : World) (o : Obj) (C : Array Value) (n c : Nat) : (convert 33 33 (.slice (some ⟨w.heap.size + 1, 0, none⟩) n c)).run Try.prog ((w.alloc o).alloc (.cells C 5)) = .ok (.slice (some ⟨w.heap.size + 1, 0, none⟩) n c) ((w.alloc o).alloc (.cells C 5 (C.size, C.size + 1))) := by
  have := Lib.run_convert_bytes_const (P := Try.prog) (w.alloc o) 33 5 C n c Try.underlying33 Try.underlying5
  rw [show (w.alloc o).heap.size = w.heap.size + 1 by simp] at this
  exact this
def k123 : Ky := ⟨1, 2, 3⟩
theorem k123_wf : k123.wf := by unfold Ky.wf k123; decide
theorem kzero_wf : (⟨0, 0, 0⟩ : Ky).wf := by unfold Ky.wf; decide
def fs1 : Va := ⟨[⟨k123, [97], [120]⟩], []⟩
theorem fs1_is : seS Va.new k123 [97] [120] = fs1 := rfl

set_option maxHeartbeats 2000000 in
theorem vfirst_c (w : World) : Calls Try.prog 7 #[] w fun e w' => e = .returned (.bool true) ∧ Below w.heap.size w w' := by
  go_enter Try.func7, Try.ntmps7
  go_wp2_with fail
  refine (new_on w w (Below.refl _ _) (fun _ => False) (fun x hx => hx.elim)).mono ?_
  rintro e w1 ⟨g, rfl, hv1, -⟩
  have HV1 := hid hv1
  clear hv1
  have hs2 : (w1.alloc (.cells #[.int .i64 1, .int .i64 2, .int .i64 3] 32)).heap.size = w1.heap.size + 1 := by simp
  have kc := conv2 w1 (.cells #[.int .i64 1, .int .i64 2, .int .i64 3] 32) #[.int .u8 120] 1 1
  go_wp2_with fail
  have HV2 := hid (HV1.out.add (w2 := w1.alloc (.cells #[.int .i64 1, .int .i64 2, .int .i64 3] 32)) ((Below.refl _ _).alloc (Nat.le_refl _) _) (fun x => x = w1.heap.size) (fun x hx => by subst hx; simp))
  have HK2 := hid (Blk.new w1 32 #[.int .i64 1, .int .i64 2, .int .i64 3])
  refine (seal_on w _ g Va.new _ (HV2.out.bel ((Below.refl _ _).alloc (Nat.le_refl _) _)) k123 k123_wf [97] _ 1 1 [120] (Bts.lit2 w1 _ 5 [120] _) (by decide)).mono ?_
  rintro e w3 ⟨rfl, hv3, hk3⟩
  rw [fs1_is] at hv3
  have hK3 : Blk w3 w1.heap.size 32 #[.int .i64 1, .int .i64 2, .int .i64 3] := (Blk.keep HK2.out (((Below.refl (w1.heap.size + 1) _).alloc (by rw [hs2]; exact Nat.le_refl _) _).block w1.heap.size (by omega))).keep (hk3 w1.heap.size (.inr rfl))
  have HV3 := hid hv3
  have HK3 := hid hK3
  clear hv3 hk3 hK3 HV1 HV2 HK2 hs2
  generalize w1.heap.size = kb at *
  have hs : (seH Va.new k123 [(120 : UInt8)].length : Int) = 1 := rfl
  have he : seE Va.new k123 [(120 : UInt8)].length = 0 := rfl
  rw [hs, he]
  have c0 := HK3.out.cell 0
  have c1 := HK3.out.cell 1
  have c2 := HK3.out.cell 2
  simp only [List.getElem?_toArray, List.getElem?_cons_zero, List.getElem?_cons_succ] at c0 c1 c2
  go_wp2_with fail
  refine (open_on w w3 g fs1 _ HV3.out k123 k123_wf [97] 1 1 rfl (by decide)).mono ?_
  rintro e w4 ⟨A4, n4, c4, rfl, ho4, -, hb4⟩
  rw [show opE fs1 k123 [97] 1 = 0 from rfl]
  rw [show opB fs1 k123 [97] 1 = [120] from rfl] at ho4
  have HV4 := hid (HV3.out.bel hb4)
  have hK4 := HK3.out.keep (hb4.block kb HK3.out.lt)
  have HK4 := hid hK4
  have HO4 := hid ho4
  have HLT4 : Hid (∀ wx, Below w4.heap.size w4 wx → (convert 33 9 (.slice A4 n4 c4)).run Try.prog wx = .ok (.string (str [120])) wx) := hid (fun wx hx => own_str (own_keep HO4.out fun b hb => hx.block b (own_lt HO4.out b hb)))
  clear c0 c1 c2 hb4 ho4 HV3 HK3 hK4 HO4
  have c0 := HK4.out.cell 0
  have c1 := HK4.out.cell 1
  have c2 := HK4.out.cell 2
  simp only [List.getElem?_toArray, List.getElem?_cons_zero, List.getElem?_cons_succ] at c0 c1 c2
  go_wp2_with fail
  refine (open_on w w4 g fs1 _ HV4.out k123 k123_wf [98] 1 1 rfl (by decide)).mono ?_
  rintro e w5 ⟨A5, n5, c5, rfl, -, -, hb5⟩
  rw [show opE fs1 k123 [98] 1 = 51 from rfl]
  have HV5 := hid (HV4.out.bel hb5)
  have HB5 := hid hb5
  clear hb5 c0 c1 c2 HK4 HV4
  go_wp2_with fail
  refine (open_on w w5 g fs1 _ HV5.out ⟨0, 0, 0⟩ kzero_wf [97] 1 1 rfl (by decide)).mono ?_
  rintro e w6 ⟨A6, n6, c6, rfl, -, -, hb6⟩
  rw [show opE fs1 ⟨0, 0, 0⟩ [97] 1 = 51 from rfl]
  have HV6 := hid (HV5.out.bel hb6)
  have hcv := HLT4.out w6 (HB5.out.trans (hb6.mono HB5.out.size))
  have hst : (str [120]).toList = [120] := str_list _
  clear hb6 HV5 HB5 HLT4
  go_wp2_with fail
  refine (sealed_on w w6 g fs1 _ HV6.out).mono ?_
  rintro e w7 ⟨rfl, rfl⟩
  rw [show fs1.L.length = 1 from rfl]
  go_wp2
  go_ret
  exact ⟨rfl, HV6.out.below⟩
end Go.Proofs.Ytaailoodhaibiaa
