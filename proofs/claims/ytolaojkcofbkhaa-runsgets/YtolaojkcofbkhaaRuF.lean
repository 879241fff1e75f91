/- What strongroomlaw11.first returns: yes; the mathematics of the laws. Nothing is assumed. -/
import Derived.Test.YtolaojkcofbkhaaRuQ
import Derived.Test.YtolaojkcofbkhaaFrame
namespace Go.Proofs.Ytolaojkcofbkhaa
open Go.RowKit Go.ChangeShapes Go.WideShapes Go.ChangeAt

theorem argII {w : World} {a : Option Addr} {len cap : Nat} {zs : List Int} (h : IsRow .i64 w a len cap zs) : ∃ L : List Int, Lst w 0 w.heap.size a len (ics L) ∧ len ≤ cap ∧ i64s L := by
  obtain ⟨h1, h2, _, h4, _⟩ := argI h
  exact ⟨zs.take len, h1, h2, fun x hx => wf_i64 (h4 x hx)⟩
theorem ics_lit (w : World) (l : List Int) : Lst (w.alloc (.cells (ics l).toArray 3)) 0 (w.alloc (.cells (ics l).toArray 3)).heap.size (some ⟨w.heap.size, 0, none⟩) l.length (ics l) :=
  ⟨ics_len l, fun _ => ⟨w.heap.size, 0, rfl, Nat.zero_le _, by simp, fun j u hu => by
    rw [Nat.zero_add, (Blk.new w 3 (ics l).toArray).cell j, List.getElem?_toArray]
    exact hu⟩⟩
theorem bts_litR (w : World) (l : List UInt8) (m : Nat × Nat) : Bts (w.alloc (.cells (bs l).toArray 5 m)) 0 (w.alloc (.cells (bs l).toArray 5 m)).heap.size (some ⟨w.heap.size, 0, none⟩) l.length l := (Bts.litM w 5 l m).wide (Nat.zero_le _) (by simp)
theorem conv1R (w : World) (C : Array Value) (n c : Nat) : (convert 24 24 (.slice (some ⟨w.heap.size, 0, none⟩) n c)).run Try.prog (w.alloc (.cells C 5)) = .ok (.slice (some ⟨w.heap.size, 0, none⟩) n c) (w.alloc (.cells C 5 (C.size, C.size + 1))) :=
  Lib.run_convert_bytes_const (P := Try.prog) w 24 5 C n c Try.underlying24 Try.underlying5
theorem rf_fold : fold 7 = 14 ∧ fold (-1) = 1 := by decide
theorem rf_b (a b : Nat) (ha : a < 128) (hb : b < 128) (x y : Int) (hx : fold x < 128) (hy : fold y < 128) : nat 2 ++ rnsB [(x, a), (y, b)] = [2, UInt8.ofNat (fold x), UInt8.ofNat a, UInt8.ofNat (fold y), UInt8.ofNat b] := by
  show nat 2 ++ (nat (fold x) ++ nat a ++ (nat (fold y) ++ nat b ++ [])) = _
  rw [nat_small (n := 2) (by decide), nat_small hx, nat_small hy, nat_small ha, nat_small hb]
  rfl
theorem rf_put : ruP [7, 7, 7, -1] = [2, 14, 3, 1, 1] := by
  have e : rsO [7, 7, 7, -1] = [(7, 3), (-1, 1)] := by decide
  unfold ruP
  rw [e]
  exact (rf_b 3 1 (by decide) (by decide) 7 (-1) (by decide) (by decide)).trans (by decide)
theorem i64s4 : i64s [7, 7, 7, -1] := fun x hx => by
  unfold i64r
  simp at hx
  omega
theorem rf_yes : RuG [2, 14, 3, 1, 1] 4 [7, 7, 7, -1] true := .inl ⟨rfl, by decide, by decide, rfl, i64s4, rf_put⟩
theorem rf_no : RuG [2, 14, 3, 14, 1] 4 [] false := RuG.no fun m h => by
  have hp := h.2.2
  have e : nat 2 ++ rnsB [(7, 3), (7, 1)] = [2, 14, 3, 14, 1] := (rf_b 3 1 (by decide) (by decide) 7 7 (by decide) (by decide)).trans (by decide)
  rw [← e] at hp
  unfold ruP at hp
  have hl := h.len (by decide)
  have hr := rs_len m
  obtain ⟨e1, e2⟩ := nat_cut (by omega) (by decide) hp
  have hin : ∀ p ∈ [((7 : Int), 3), (7, 1)], i64r p.1 ∧ p.2 < 18446744073709551616 := fun p hp => by
    unfold i64r
    simp at hp
    rcases hp with rfl | rfl <;> decide
  have e3 := rnsB_inj (rsO m) [(7, 3), (7, 1)] (h.rs (by decide)) hin e1 e2
  have hk := okR_rsO m
  rw [e3] at hk
  exact hk.2.1 (7, 1) rfl rfl
theorem RuG.isIt {b : List UInt8} {n : Int} {l m : List Int} {x y : Bool} (h : RuG b n l x) (g : RuG b n m y) : m = l ∧ y = x := ⟨(h.one g).1.symm, (h.one g).2.symm⟩
set_option maxRecDepth 100000 in
set_option maxHeartbeats 16000000 in
theorem rufirst_c (w : World) : Calls Try.prog 6 #[] w fun e w' => e = .returned (.bool true) ∧ Below w.heap.size w w' := by
  go_enter Try.func6, Try.ntmps6
  have kc := conv1R w #[.int .u8 2, .int .u8 14, .int .u8 3, .int .u8 1, .int .u8 1] 5 5
  go_wp2_with fail
  clear kc
  refine (rget_c (bts_litR w [2, 14, 3, 1, 1] _) (by decide) 4 (by decide)).mono ?_
  rintro e w1 ⟨l1, ok1, A1, c1, rfl, hg1, ho1, hc1, hb1⟩
  obtain ⟨rfl, rfl⟩ := rf_yes.isIt hg1
  have HB1 : Hid (Below w.heap.size w w1) := hid (((Below.refl _ _).alloc (Nat.le_refl _) _).trans (hb1.mono (by simp)))
  have HO1 := hid ho1
  clear ho1 hb1 hg1 hc1
  have kc := conv1R w1 #[.int .u8 2, .int .u8 14, .int .u8 3, .int .u8 14, .int .u8 1] 5 5
  go_wp2_with fail
  clear kc
  refine (rget_c (bts_litR w1 [2, 14, 3, 14, 1] _) (by decide) 4 (by decide)).mono ?_
  rintro e w2 ⟨l2, ok2, A2, c2, rfl, hg2, -, -, hb2⟩
  obtain ⟨rfl, rfl⟩ := rf_no.isIt hg2
  have hb12 : Below w1.heap.size w1 w2 := ((Below.refl _ _).alloc (Nat.le_refl _) _).trans (hb2.mono (by simp))
  have HB2 : Hid (Below w.heap.size w w2) := hid (HB1.out.trans (hb12.mono HB1.out.size))
  have HO2 := hid ((HO1.out.below hb12 (Nat.le_refl _)).wide (Nat.le_refl _) hb12.size)
  clear hb2 hb12 HO1 HB1 hg2
  go_wp2_with fail
  refine (rput_c (ics_lit w2 [7, 7, 7, -1]) (by decide) (by decide) i64s4).mono ?_
  rintro e w3 ⟨A3, c3, rfl, hc3, ho3, hb3⟩
  have hb23 : Below w2.heap.size w2 w3 := ((Below.refl _ _).alloc (Nat.le_refl _) _).trans (hb3.mono (by simp))
  have HB3 : Hid (Below w.heap.size w w3) := hid (HB2.out.trans (hb23.mono HB2.out.size))
  have HO3 := hid ((HO2.out.below hb23 (Nat.le_refl _)).wide (Nat.le_refl _) hb23.size)
  have hst := ru_str (c := c3) (Bts.own ho3)
  rw [rf_put] at hst ⊢
  have hst2 : (convert 24 9 (.slice A3 5 c3)).run Try.prog w3 = .ok (.string ⟨#[2, 14, 3, 1, 1]⟩) w3 := hst
  clear hb3 hb23 HO2 HB2 ho3 hst hc3
  go_wp2_with fail
  refine (isame_c (a := [7, 7, 7, -1]) (b := [7, 7, 7, -1]) (HO3.out.keep ?_ |>.wide (Nat.le_refl _) (by simp)) (ics_lit w3 [7, 7, 7, -1]) (by decide) (by decide)).mono ?_
  · intro k _ hk
    exact (Below.refl w3.heap.size w3 |>.alloc (Nat.le_refl _) _).block k hk
  rintro e w4 ⟨rfl, hb4⟩
  have HB4 : Hid (Below w.heap.size w w4) := hid (HB3.out.trans (((Below.refl w3.heap.size w3).alloc (Nat.le_refl _) _).trans (hb4.mono (by simp)) |>.mono HB3.out.size))
  clear hb4 HB3 HO3 hst2
  go_wp2
  go_ret
  exact ⟨rfl, HB4.out⟩
end Go.Proofs.Ytolaojkcofbkhaa
