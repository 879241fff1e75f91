/- What the document's own Mask returns. -/
import Derived.Test.YtomgpkklbhdgiaaGreatDoorVlMask
import Derived.Test.YtomgpkklbhdgiaaGreatDoorVlW3r
namespace Go.Proofs.YtomgpkklbhdgiaaGreatDoor
open Go.RowKit

theorem vstr_cut1 (l : List UInt8) (i : Nat) (c : UInt8) (h : l[i]? = some c) (w : World) : (Instr.slice 9 (.string (str l)) (some (.int .i64 (i : Int))) (some (.int .i64 ((i : Int) + 1))) none).run Tryz.prog w = .ok (.string (str [c])) w := by
  obtain ⟨hi, hc⟩ := List.getElem?_eq_some_iff.1 h
  have key := run_slice_string_if (P := Tryz.prog) w 9 (str l) .i64 .i64 i (i + 1) Tryz.underlying9
  rw [if_pos (by rw [str_size]; omega), if_pos (by omega), vstr_ext] at key
  have h3 : (List.drop ((i : Int)).toNat l).take (((i : Int) + 1).toNat - ((i : Int)).toNat) = [c] := by
    rw [Int.toNat_natCast, show ((i : Int) + 1).toNat - i = 1 by omega, List.take_one, List.head?_drop, h]
    rfl
  rw [h3] at key
  exact key
theorem take_next {t : List UInt8} {j : Nat} {c : UInt8} (h : t[j]? = some c) : str (t.take j) ++ str [c] = str (t.take (j + 1)) := by
  obtain ⟨hi, hc⟩ := List.getElem?_eq_some_iff.1 h
  rw [vstr_app, List.take_succ_eq_append_getElem hi, hc]
theorem mk_facts {j L : Nat} {mn : Int} (h1 : j < L) (h2 : (j : Int) < mn) (hL : L ≤ 64) : wrap64 ((j : Int) + 1) = (j : Int) + 1 ∧ (j : Int) + 1 = ((j + 1 : Nat) : Int) ∧ j + 1 ≤ L ∧ j + 1 ≤ mn.toNat ∧ L - (intOf (.int .i64 ((j + 1 : Nat) : Int))).toNat < L - (intOf (.int .i64 (j : Int))).toNat := by
  refine ⟨by unfold wrap64; omega, by omega, h1, by omega, ?_⟩
  simp only [intOf]
  omega

set_option maxRecDepth 20000 in
set_option maxHeartbeats 4000000 in
theorem rmask_c (v : Vl) (hf : vf v < 18446744073709551616) (mk mn : Int) (w : World) :
    Calls Tryz.prog 29 #[(.agg #[.int .i64 (vk v), .int .i64 (vn v), .string (str (vs v)), .int .u64 ((vf v : Nat) : Int)]), .agg #[.int .i64 mk, .int .i64 mn]] w fun e w' => e = .returned (.agg #[.int .i64 (vk (vMask v mk mn)), .int .i64 (vn (vMask v mk mn)), .string (str (vs (vMask v mk mn))), .int .u64 ((vf (vMask v mk mn) : Nat) : Int)]) ∧ Below w.heap.size w w' := by
  have HA := hid (fun wx => rright_c v hf wx)
  have HR := hid (vRt_right v)
  have HS := hid (vRt_s v)
  have HC : Hid (vMask v mk mn = vMaskR (vRt v) mk mn) := hid rfl
  generalize vMask v mk mn = r at *
  generalize vRt v = rv at *
  clear hf
  go_enter Tryz.func29, Tryz.ntmps29
  go_wp2_with fail
  refine (HA.out _).mono ?_
  rintro e w2 ⟨rfl, hb2⟩
  obtain ⟨-, B2, B3, hbel0⟩ := three_boxes hb2
  have hbel := hbel0.alloc hbel0.size (.cells #[.int .i64 (vk rv), .int .i64 (vn rv), .string (str (vs rv)), .int .u64 ((vf rv : Nat) : Int)] 25)
  obtain ⟨p0, p1, p2, p3, pf⟩ := Blk.v4 (Blk.new w2 25 #[.int .i64 (vk rv), .int .i64 (vn rv), .string (str (vs rv)), .int .u64 ((vf rv : Nat) : Int)])
  obtain ⟨q0, q1⟩ := Blk.v2 (B2.old (.cells #[.int .i64 (vk rv), .int .i64 (vn rv), .string (str (vs rv)), .int .u64 ((vf rv : Nat) : Int)] 25))
  obtain ⟨r0, r1, r2, r3, rf⟩ := Blk.v4 (B3.old (.cells #[.int .i64 (vk rv), .int .i64 (vn rv), .string (str (vs rv)), .int .u64 ((vf rv : Nat) : Int)] 25))
  clear HA hb2 B2 B3 hbel0
  by_cases m0 : mk = 0
  · have HE : Hid (r = rv) := hid (by rw [HC.out]; exact vMaskR_keep (.inl m0))
    have t0 : (mk == 0) = true := by rw [m0]; rfl
    clear HC HR m0
    have hx := HE.out
    subst hx
    clear HE
    go_wp2
    refine bodyPost_ret (v := (.agg #[.int .i64 (vk r), .int .i64 (vn r), .string (str (vs r)), .int .u64 ((vf r : Nat) : Int)])) (by simp [results, Tryz.results29, go_sem, r0, r1, r2, r3]) rfl ⟨rfl, bel4 hbel (by omega) _ _ _ _⟩
  have t0 : (mk == 0) = false := by simpa using m0
  by_cases k0 : vk rv = 0
  · have HE : Hid (r = rv) := hid (by rw [HC.out]; exact vMaskR_keep (.inr k0))
    have c0 : (vk rv == 0) = true := by rw [k0]; rfl
    clear HC HR m0 k0
    have hx := HE.out
    subst hx
    clear HE
    go_wp2
    refine bodyPost_ret (v := (.agg #[.int .i64 (vk r), .int .i64 (vn r), .string (str (vs r)), .int .u64 ((vf r : Nat) : Int)])) (by simp [results, Tryz.results29, go_sem, r0, r1, r2, r3]) rfl ⟨rfl, bel4 hbel (by omega) _ _ _ _⟩
  have c0 : (vk rv == 0) = false := by simpa using k0
  by_cases m2 : mk = 2
  · have HE : Hid (r = (vk rv, 0, [], 0)) := hid (by rw [HC.out, m2]; exact mask2 HR.out mn)
    have t2 : (mk == 2) = true := by rw [m2]; rfl
    clear HC HR m0 m2 k0
    go_wp2
    refine bodyPost_ret (v := (.agg #[.int .i64 (vk rv), .int .i64 (0), .string (str ([])), .int .u64 ((0 : Nat) : Int)])) (by simp [results, Tryz.results29, go_sem, r0, r1, r2, r3, strn]) rfl ⟨by rw [HE.out]; rfl, bel4 hbel (by omega) _ _ _ _⟩
  have t2 : (mk == 2) = false := by simpa using m2
  by_cases m3 : mk = 3
  · have t3 : (mk != 3) = false := by rw [m3]; rfl
    by_cases k3 : vk rv = 3
    · have c3 : (vk rv != 3) = false := by rw [k3]; rfl
      obtain ⟨t, ht⟩ : ∃ t, t = vs rv := ⟨_, rfl⟩
      have hz : (str (vs rv)).size = t.length := by rw [ht]; exact str_size _
      have HE : Hid (r = (3, 0, t.take mn.toNat, 0)) := hid (by rw [HC.out, m3, vMaskR_head k3, ht])
      have hL : t.length ≤ 64 := by rw [ht]; exact HS.out
      have HL := hid hL
      have hcut : Hid (∀ (j : Nat) (c : UInt8), t[j]? = some c → ∀ wx, (Instr.slice 9 (.string (str (vs rv))) (some (.int .i64 (j : Int))) (some (.int .i64 ((j : Int) + 1))) none).run Tryz.prog wx = .ok (.string (str [c])) wx) := hid (fun j c h wx => by rw [← ht]; exact vstr_cut1 t j c h wx)
      have HT := hid ht
      clear HC HR HS m0 m2 m3 k0 k3 ht hL
      go_wp2_with fail
      go_loop [6, 7] (fun sv iv => ∃ (j : Nat), sv = .string (str (t.take j)) ∧ iv = .int .i64 (j : Int) ∧ Hid (j ≤ t.length ∧ j ≤ mn.toNat)) (fun _ iv => t.length - (intOf iv).toNat)
      case atStart => exact ⟨0, rfl, rfl, hid ⟨Nat.zero_le _, Nat.zero_le _⟩⟩
      case round =>
        obtain ⟨j, rfl, rfl, hh⟩ := hrel
        by_cases h1 : j < t.length
        · have d1 : decide (j < t.length) = true := by simpa using h1
          have d1' : decide ((j : Int) < (t.length : Int)) = true := by simpa using h1
          by_cases h2 : (j : Int) < mn
          · have d2 : decide ((j : Int) < mn) = true := by simpa using h2
            obtain ⟨c, hc⟩ : ∃ c, t[j]? = some c := ⟨_, List.getElem?_eq_getElem h1⟩
            have hsl := hcut.out j c hc
            have hap := take_next hc
            obtain ⟨x1, x2, x3, x4, x5⟩ := mk_facts h1 h2 HL.out
            have HX2 := hid x2
            have k1 : ¬ 9223372036854775807 < (str (t.take j)).size + (str [c]).size := by
              rw [str_size, str_size, List.length_take]; have := HL.out; simp; omega
            have HX := hid (And.intro x3 (And.intro x4 x5))
            clear h1 h2 hc x2 x3 x4 x5 hh
            go_wp2
            try rw [x1]
            rw [HX2.out]
            exact ⟨⟨j + 1, by rw [← hap], rfl, hid ⟨HX.out.1, HX.out.2.1⟩⟩, HX.out.2.2⟩
          · have d2 : decide ((j : Int) < mn) = false := by simpa using h2
            have HF : Hid (r = (3, 0, t.take j, 0)) := hid (by rw [HE.out, show mn.toNat = j by have := hh.out; omega])
            clear h1 h2 hh
            go_wp2
            refine bodyPost_ret (v := (.agg #[.int .i64 (3), .int .i64 (0), .string (str (t.take j)), .int .u64 ((0 : Nat) : Int)])) (by simp [results, Tryz.results29, go_sem, r0, r1, r2, r3]) rfl ⟨by rw [HF.out]; rfl, bel4 hbel (by omega) _ _ _ _⟩
        · have d1 : decide (j < t.length) = false := by simpa using h1
          have d1' : decide ((j : Int) < (t.length : Int)) = false := by simpa using h1
          have HF : Hid (r = (3, 0, t.take j, 0)) := hid (by rw [HE.out, List.take_of_length_le (by have := hh.out; omega), List.take_of_length_le (by omega)])
          clear h1 hh
          go_wp2
          refine bodyPost_ret (v := (.agg #[.int .i64 (3), .int .i64 (0), .string (str (t.take j)), .int .u64 ((0 : Nat) : Int)])) (by simp [results, Tryz.results29, go_sem, r0, r1, r2, r3]) rfl ⟨by rw [HF.out]; rfl, bel4 hbel (by omega) _ _ _ _⟩
    · have c3 : (vk rv != 3) = true := by simpa using k3
      have HE : Hid (r = vNull) := hid (by rw [HC.out]; exact vMaskR_hide (fun c => c.elim m0 k0) m2 (.inr k3))
      clear HC HR m0 m2 m3 k0 k3
      go_wp2
      refine bodyPost_ret (v := (.agg #[.int .i64 (0), .int .i64 (0), .string (str ([])), .int .u64 ((0 : Nat) : Int)])) (by simp [results, Tryz.results29, go_sem, r0, r1, r2, r3, strn]) rfl ⟨by rw [HE.out]; rfl, bel4 hbel (by omega) _ _ _ _⟩
  · have t3 : (mk != 3) = true := by simpa using m3
    have HE : Hid (r = vNull) := hid (by rw [HC.out]; exact vMaskR_hide (fun c => c.elim m0 k0) m2 (.inl m3))
    clear HC HR m0 m2 m3 k0
    go_wp2
    refine bodyPost_ret (v := (.agg #[.int .i64 (0), .int .i64 (0), .string (str ([])), .int .u64 ((0 : Nat) : Int)])) (by simp [results, Tryz.results29, go_sem, r0, r1, r2, r3, strn]) rfl ⟨by rw [HE.out]; rfl, bel4 hbel (by omega) _ _ _ _⟩
end Go.Proofs.YtomgpkklbhdgiaaGreatDoor
