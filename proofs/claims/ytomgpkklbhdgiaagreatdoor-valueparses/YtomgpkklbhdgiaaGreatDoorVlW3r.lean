/- What the document's own right, numbers and texts return. -/
import Derived.Test.YtomgpkklbhdgiaaGreatDoorVlW3
namespace Go.Proofs.YtomgpkklbhdgiaaGreatDoor
open Go.RowKit

set_option maxHeartbeats 1000000 in
theorem rright_c (v : Vl) (hf : vf v < 18446744073709551616) (w : World) :
    Calls Tryz.prog 40 #[(.agg #[.int .i64 (vk v), .int .i64 (vn v), .string (str (vs v)), .int .u64 ((vf v : Nat) : Int)])] w fun e w' => e = .returned (.agg #[.int .i64 (vk (vRt v)), .int .i64 (vn (vRt v)), .string (str (vs (vRt v))), .int .u64 ((vf (vRt v) : Nat) : Int)]) ∧ Below w.heap.size w w' := by
  have HR := hid (fun wx => rRight_c v hf wx)
  have HY : Hid (vRight v = true → vRt v = v) := hid vRt_of
  have HN : Hid (vRight v = false → vRt v = vNull) := hid vRt_no
  generalize vRight v = b at *
  obtain ⟨r, hr⟩ : ∃ r, r = vRt v := ⟨_, rfl⟩
  rw [← hr]
  have HE := hid hr
  clear hr hf
  go_enter Tryz.func40, Tryz.ntmps40
  go_wp2_with fail
  refine (HR.out _).mono ?_
  rintro e w2 ⟨rfl, hb2⟩
  obtain ⟨p0, p1, p2, p3, -⟩ := (((Blk.new w 25 _).old _).bel hb2 (by simp; omega)).v4
  obtain ⟨q0, q1, q2, q3, qf⟩ := ((Blk.new (w.alloc _) 25 _).bel hb2 (by simp)).v4
  have hb3 := (bel2 w _ _).trans (hb2.mono (by simp; omega))
  simp only [sz1] at q0 q1 q2 q3 qf
  clear hb2
  cases b
  · have hr : r = vNull := HE.out.trans (HN.out rfl)
    subst hr
    clear HE HN HY HR
    go_wp2
    refine bodyPost_ret (v := (.agg #[.int .i64 (0), .int .i64 (0), .string (str ([])), .int .u64 ((0 : Nat) : Int)])) (by simp [results, Tryz.results40, go_sem, q0, q1, q2, q3, str]) rfl ⟨rfl, bel4 hb3 (by omega) _ _ _ _⟩
  · have hr : r = v := HE.out.trans (HY.out rfl)
    subst hr
    clear HE HN HY HR
    go_wp2
    refine bodyPost_ret (v := (.agg #[.int .i64 (vk r), .int .i64 (vn r), .string (str (vs r)), .int .u64 ((vf r : Nat) : Int)])) (by simp [results, Tryz.results40, go_sem, q0, q1, q2, q3]) rfl ⟨rfl, bel4 hb3 (by omega) _ _ _ _⟩


theorem numbers_c (x y : Int) (w : World) : Calls Tryz.prog 43 #[.int .i64 x, .int .i64 y] w fun e w' => e = .returned (.int .i64 (sgn (x - y))) ∧ w' = w := by
  rcases Int.lt_trichotomy x y with h | h | h
  · have h1 : decide (x < y) = true := by simpa using h
    go_enter Tryz.func43, Tryz.ntmps43
    go_wp2
    go_ret
    exact ⟨(by unfold sgn; rw [if_pos (by omega)]; try rfl), rfl⟩
  · subst h
    go_enter Tryz.func43, Tryz.ntmps43
    go_wp2
    go_ret
    exact ⟨by rw [Int.sub_self]; rfl, rfl⟩
  · have h1 : decide (x < y) = false := by simp; omega
    have h2 : decide (y < x) = true := by simpa using h
    go_enter Tryz.func43, Tryz.ntmps43
    go_wp2
    go_ret
    exact ⟨(by unfold sgn; rw [if_neg (by omega), if_neg (by omega)]; try rfl), rfl⟩
set_option maxRecDepth 20000 in
set_option maxHeartbeats 2000000 in
theorem texts_c (a b : List UInt8) (ha : a.length ≤ 4611686018427387904) (hb : b.length ≤ 4611686018427387904) (w : World) :
    Calls Tryz.prog 42 #[.string (str a), .string (str b)] w fun e w' => e = .returned (.int .i64 (tCmp a b)) ∧ Below w.heap.size w w' := by
  have za : ((str a).size : Int) = (a.length : Int) := by rw [str_size]
  have zb : ((str b).size : Int) = (b.length : Int) := by rw [str_size]
  have za2 : (str a).size = a.length := str_size a
  have zb2 : (str b).size = b.length := str_size b
  obtain ⟨r, hr⟩ : ∃ r, r = tCmp a b := ⟨_, rfl⟩
  rw [← hr]
  have HR := hid hr
  have HL := hid (And.intro ha hb)
  clear hr ha hb
  go_enter Tryz.func42, Tryz.ntmps42
  go_wp2_with fail
  go_loopw [5] (fun iv wr => ∃ (i : Nat), iv = .int .i64 (i : Int) ∧ Below w.heap.size w wr ∧ Hid (i ≤ a.length ∧ i ≤ b.length ∧ tCmp (a.drop i) (b.drop i) = r)) (fun iv _ => a.length - (intOf iv).toNat)
  case atStart => exact ⟨0, rfl, Below.refl _ _, hid ⟨by omega, by omega, HR.out.symm⟩⟩
  case round =>
    obtain ⟨i, rfl, hbel, hh⟩ := hrel
    by_cases h1 : i < a.length
    · have d1 : decide ((i : Int) < (a.length : Int)) = true := by simpa using h1
      have d1' : decide (i < a.length) = true := by simpa using h1
      by_cases h2 : i < b.length
      · have d2 : decide ((i : Int) < (b.length : Int)) = true := by simpa using h2
        have d2' : decide (i < b.length) = true := by simpa using h2
        obtain ⟨x, hx⟩ : ∃ x, a[i]? = some x := ⟨_, List.getElem?_eq_getElem h1⟩
        obtain ⟨y, hy⟩ : ∃ y, b[i]? = some y := ⟨_, List.getElem?_eq_getElem h2⟩
        have ia := vstr_at a i x hx .i64
        have ib := vstr_at b i y hy .i64
        have hst := tCmp_step hx hy
        by_cases he : x = y
        · have dn : ((x.toNat : Int) != (y.toNat : Int)) = false := by rw [he]; simp
          have HN : Hid (i + 1 ≤ a.length ∧ i + 1 ≤ b.length ∧ tCmp (a.drop (i + 1)) (b.drop (i + 1)) = r) := hid ⟨h1, h2, by rw [← hh.out.2.2, hst, if_neg (by rw [he]; omega), if_neg (by rw [he]; omega)]⟩
          have w1 : wrap64 ((i : Int) + 1) = ((i + 1 : Nat) : Int) := by have := HL.out; unfold wrap64; omega
          have HI := hid h1
          clear hh h1 h2 hx hy hst he
          as_aux_lemma =>
          go_wp2_with fail
          go_quiet (fail)
          go_wp2
          rw [w1]
          exact ⟨⟨i + 1, rfl, bdN _ hbel, HN⟩, by have := HI.out; simp only [intOf, Int.toNat_natCast]; omega⟩
        · have dn : ((x.toNat : Int) != (y.toNat : Int)) = true := by
            simp
            intro h
            exact he (UInt8.toNat_inj.1 (by omega))
          have wx : wrap64 (x.toNat : Int) = (x.toNat : Int) := by have := x.toNat_lt; unfold wrap64; omega
          have wy : wrap64 (y.toNat : Int) = (y.toNat : Int) := by have := y.toNat_lt; unfold wrap64; omega
          have HN : Hid (sgn ((x.toNat : Int) - y.toNat) = r) := hid (by
            have hne : x.toNat ≠ y.toNat := fun h => he (UInt8.toNat_inj.1 h)
            rw [← hh.out.2.2, hst]
            unfold sgn
            (repeat' split) <;> omega)
          clear hh h1 h2 hx hy hst he
          as_aux_lemma =>
          go_wp2_with fail
          go_quiet (fail)
          go_wp2_with fail
          generalize hW : wr.drewN nq = W
          have hbw : Below w.heap.size w W := by rw [← hW]; exact bdN _ hbel
          clear hW hbel
          go_quiet (first | (go_at_call 43; refine Calls.quiet_of_same (numbers_c _ _ _)))
          go_wp2
          go_ret
          exact ⟨by rw [← HN.out, ← wx, ← wy]; rfl, bdN _ hbw⟩
      · have d2 : decide ((i : Int) < (b.length : Int)) = false := by simpa using h2
        have d2' : decide (i < b.length) = false := by simpa using h2
        have HN : Hid (sgn ((a.length : Int) - b.length) = r) := hid (by rw [← hh.out.2.2, tCmp_end hh.out.1 hh.out.2.1 (by have := hh.out; omega)])
        clear hh h1 h2
        as_aux_lemma =>
        go_wp2_with fail
        refine (numbers_c _ _ _).mono ?_
        rintro e w' ⟨rfl, rfl⟩
        go_wp2
        go_ret
        exact ⟨by rw [← HN.out]; rfl, hbel⟩
    · have d1 : decide ((i : Int) < (a.length : Int)) = false := by simpa using h1
      have d1' : decide (i < a.length) = false := by simpa using h1
      have HN : Hid (sgn ((a.length : Int) - b.length) = r) := hid (by rw [← hh.out.2.2, tCmp_end hh.out.1 hh.out.2.1 (by have := hh.out; omega)])
      clear hh h1
      as_aux_lemma =>
      go_wp2_with fail
      refine (numbers_c _ _ _).mono ?_
      rintro e w' ⟨rfl, rfl⟩
      go_wp2
      go_ret
      exact ⟨by rw [← HN.out]; rfl, hbel⟩
end Go.Proofs.YtomgpkklbhdgiaaGreatDoor
