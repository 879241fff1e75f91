/- What the document's own Print of package value returns. -/
import Derived.Test.YtomgpkklbhdgiaaGreatDoorVlPrR
namespace Go.Proofs.YtomgpkklbhdgiaaGreatDoor
open Go.RowKit

theorem vcut16k (d : Nat) (hd : d < 16) (w : World) : (Instr.slice 9 (.string ⟨#[48, 49, 50, 51, 52, 53, 54, 55, 56, 57, 97, 98, 99, 100, 101, 102]⟩) (some (.int .u8 (d : Int))) (some (.int .u8 ((d : Int) + 1))) none).run Tryz.prog w = .ok (.string (str [hexd d])) w := by
  have h : ∀ e : Fin 16, [48, 49, 50, 51, 52, 53, 54, 55, 56, 57, 97, 98, 99, 100, 101, 102][e.val]? = some (hexd e.val) := by decide
  have hs : (str [48, 49, 50, 51, 52, 53, 54, 55, 56, 57, 97, 98, 99, 100, 101, 102]).size = 16 := rfl
  have key := run_slice_string_if (P := Tryz.prog) w 9 (str [48, 49, 50, 51, 52, 53, 54, 55, 56, 57, 97, 98, 99, 100, 101, 102]) .u8 .u8 d (d + 1) Tryz.underlying9
  rw [if_pos (by rw [hs]; omega), if_pos (by omega), vstr_ext] at key
  have h2 := h ⟨d, hd⟩
  have h3 : (List.drop ((d : Int)).toNat [48, 49, 50, 51, 52, 53, 54, 55, 56, 57, 97, 98, 99, 100, 101, 102]).take (((d : Int) + 1).toNat - ((d : Int)).toNat) = [hexd d] := by
    rw [Int.toNat_natCast, show ((d : Int) + 1).toNat - d = 1 by omega, List.take_one, List.head?_drop, h2]
    rfl
  rw [h3] at key
  exact key
theorem hx_facts {x : UInt8} {q r : Nat} (hq : q = x.toNat / 16) (hr : r = x.toNat % 16) : (x.toNat : Int) / 16 = (q : Int) ∧ (x.toNat : Int) % 16 = (r : Int) ∧ Int.tdiv (x.toNat : Int) 16 = (q : Int) ∧ Int.tmod (x.toNat : Int) 16 = (r : Int) ∧ IntKind.u8.wrap (q : Int) = (q : Int) ∧ IntKind.u8.wrap (r : Int) = (r : Int) ∧ IntKind.u8.wrap ((q : Int) + 1) = (q : Int) + 1 ∧ IntKind.u8.wrap ((r : Int) + 1) = (r : Int) + 1 ∧ ((q : Int) + 1) % 256 = (q : Int) + 1 ∧ ((r : Int) + 1) % 256 = (r : Int) + 1 ∧ q < 16 ∧ r < 16 := by
  have h := x.toNat_lt
  have a1 : (x.toNat : Int) / 16 = (q : Int) := by omega
  have a2 : (x.toNat : Int) % 16 = (r : Int) := by omega
  refine ⟨a1, a2, by rw [Int.tdiv_eq_ediv_of_nonneg (by omega)]; exact a1, by rw [Int.tmod_eq_emod_of_nonneg (by omega)]; exact a2, ?_, ?_, ?_, ?_, by omega, by omega, by omega, by omega⟩ <;> (rw [IntKind.wrap_u8]; omega)
theorem hx_app {t : List UInt8} {j q r : Nat} {x : UInt8} (hx : t[j]? = some x) (hq : q = x.toNat / 16) (hr : r = x.toNat % 16) : str (120 :: hex2 (t.take j)) ++ str [hexd q, hexd r] = str (120 :: hex2 (t.take (j + 1))) := by
  obtain ⟨h1, h2⟩ := List.getElem?_eq_some_iff.1 hx
  rw [vstr_app, List.take_succ_eq_append_getElem h1, hex2_snoc, h2, ← hq, ← hr]
  rfl
theorem pj_facts {j L : Nat} (h1 : j < L) (hL : L ≤ 64) : wrap64 ((j : Int) + 1) = (j : Int) + 1 ∧ (j : Int) + 1 = ((j + 1 : Nat) : Int) ∧ L - (intOf (.int .i64 ((j + 1 : Nat) : Int))).toNat < L - (intOf (.int .i64 (j : Int))).toNat := by
  refine ⟨by unfold wrap64; omega, by omega, ?_⟩
  simp only [intOf]
  omega
theorem pk_len {t : List UInt8} {j : Nat} (h : t.length ≤ 64) (a b : UInt8) : (¬ 9223372036854775807 < (str [a]).size + (str [b]).size) ∧ ¬ 9223372036854775807 < (str (120 :: hex2 (t.take j))).size + (str [a, b]).size := by
  rw [str_size, str_size, str_size, str_size]
  simp only [List.length_cons, List.length_nil, hex2_len, List.length_take]
  omega

set_option maxRecDepth 20000 in
set_option maxHeartbeats 4000000 in
theorem rprint3_c (v : Vl) (hf : vf v < 18446744073709551616) (n1 : -9223372036854775808 ≤ vn v) (n2 : vn v ≤ 9223372036854775807) (w : World) :
    Calls Tryz.prog 20 #[(.agg #[.int .i64 (vk v), .int .i64 (vn v), .string (str (vs v)), .int .u64 ((vf v : Nat) : Int)])] w fun e w' => e = .returned (.string (str (vPrint v))) ∧ Below w.heap.size w w' := by
  have HA := hid (fun wx => rright_c v hf wx)
  have HF := hid (vRt_f hf)
  have HN := hid (And.intro (vRt_n1 n1) (vRt_n2 n2))
  have HK := hid (vRt_k v)
  have HS := hid (vRt_s v)
  have HC : Hid (vPrint v = vPrintR (vRt v)) := hid rfl
  generalize vPrint v = r at *
  generalize vRt v = rv at *
  clear hf n1 n2
  go_enter Tryz.func20, Tryz.ntmps20
  go_wp2_with fail
  refine (HA.out _).mono ?_
  rintro e w2 ⟨rfl, hb2⟩
  have hbel0 := (bel1 w _).trans (hb2.mono (by simp))
  have hbel := hbel0.alloc hbel0.size (.cells #[.int .i64 (vk rv), .int .i64 (vn rv), .string (str (vs rv)), .int .u64 ((vf rv : Nat) : Int)] 25)
  obtain ⟨p0, p1, p2, p3, pf⟩ := Blk.v4 (Blk.new w2 25 #[.int .i64 (vk rv), .int .i64 (vn rv), .string (str (vs rv)), .int .u64 ((vf rv : Nat) : Int)])
  have HBEL := hid hbel
  clear HA hb2 hbel0 hbel
  have e1 : ∀ c : Int, vk rv = c → ∀ x : Int, x ≠ c → (vk rv == x) = false := fun c h x hx => by rw [h]; simpa using fun e => hx e.symm
  rcases HK.out with h | h | h | h | h
  · have t1 := e1 0 h 1 (by decide)
    have t2 := e1 0 h 2 (by decide)
    have t3 := e1 0 h 3 (by decide)
    have t4 := e1 0 h 4 (by decide)
    have HE := hid (pr0 h)
    clear e1 h
    go_wp2
    go_ret
    exact ⟨by rw [HC.out, HE.out]; rfl, HBEL.out⟩
  · have t1 : (vk rv == 1) = true := by rw [h]; rfl
    have HE := hid (pr1 h)
    clear e1 h
    go_wp2_with fail
    refine (digs3_c (vn rv) HN.out.1 HN.out.2 _).mono ?_
    rintro e w3 ⟨rfl, hb3⟩
    have hb4 := HBEL.out.trans (hb3.mono HBEL.out.size)
    go_wp2
    go_ret
    exact ⟨by rw [HC.out, HE.out]; rfl, hb4⟩
  · have t1 := e1 2 h 1 (by decide)
    have t2 : (vk rv == 2) = true := by rw [h]; rfl
    have HE := hid (pr2 h)
    clear e1 h
    by_cases hb : vn rv = 1
    · have d1 : (vn rv == 1) = true := by rw [hb]; rfl
      have HE2 := hid (HE.out.trans (if_pos hb))
      clear hb
      go_wp2
      go_ret
      exact ⟨by rw [HC.out, HE2.out]; rfl, HBEL.out⟩
    · have d1 : (vn rv == 1) = false := by simpa using hb
      have HE2 := hid (HE.out.trans (if_neg hb))
      clear hb
      go_wp2
      go_ret
      exact ⟨by rw [HC.out, HE2.out]; rfl, HBEL.out⟩
  · have t1 := e1 3 h 1 (by decide)
    have t2 := e1 3 h 2 (by decide)
    have t3 : (vk rv == 3) = true := by rw [h]; rfl
    obtain ⟨t, ht⟩ : ∃ t, t = vs rv := ⟨_, rfl⟩
    have HE : Hid (r = 120 :: hex2 t) := hid (by rw [HC.out, pr3 h, ht])
    have hz : (str (vs rv)).size = t.length := by rw [ht]; exact str_size _
    have HL : Hid (t.length ≤ 64) := hid (by rw [ht]; exact HS.out)
    have hix : Hid (∀ (j : Nat) (x : UInt8), t[j]? = some x → ∀ wx, (Instr.index 9 (.string (str (vs rv))) (.int .i64 (j : Int))).run Tryz.prog wx = .ok (.int .u8 (x.toNat : Int)) wx) := hid (fun j x h wx => by rw [← ht]; exact vstr_at t j x h .i64 wx)
    have HT := hid ht
    clear e1 h ht HC HS
    go_wp2_with fail
    go_loopw [4, 5] (fun sv iv wr => ∃ (j : Nat), sv = .string (str (120 :: hex2 (t.take j))) ∧ iv = .int .i64 (j : Int) ∧ Blk wr w2.heap.size 25 #[.int .i64 (vk rv), .int .i64 (vn rv), .string (str (vs rv)), .int .u64 ((vf rv : Nat) : Int)] ∧ Below w.heap.size w wr ∧ Hid (j ≤ t.length)) (fun _ iv _ => t.length - (intOf iv).toNat)
    case atStart => exact ⟨0, rfl, rfl, Blk.new w2 25 _, HBEL.out, hid (Nat.zero_le _)⟩
    case round =>
      obtain ⟨j, rfl, rfl, hB, hbw, hh⟩ := hrel
      clear p0 p1 p2 p3 pf
      obtain ⟨p0, p1, p2, p3, pf⟩ := Blk.v4 hB
      by_cases h1 : j < t.length
      · have d1 : decide (j < t.length) = true := by simpa using h1
        obtain ⟨x, hx⟩ : ∃ x, t[j]? = some x := ⟨_, List.getElem?_eq_getElem h1⟩
        obtain ⟨q, hq⟩ : ∃ q, q = x.toNat / 16 := ⟨_, rfl⟩
        obtain ⟨y, hy⟩ : ∃ y, y = x.toNat % 16 := ⟨_, rfl⟩
        have ix := hix.out j x hx
        obtain ⟨k1, k2⟩ := pk_len (j := j) HL.out (hexd q) (hexd y)
        have hap := hx_app hx hq hy
        have hap2 : str [hexd q] ++ str [hexd y] = str [hexd q, hexd y] := vstr_app [hexd q] [hexd y]
        obtain ⟨a1, a2, a3, a4, a5, a6, a7, a8, a9, a10, q16, y16⟩ := hx_facts hq hy
        have c1 := vcut16k q q16
        have c2 := vcut16k y y16
        obtain ⟨x1, x2, x3⟩ := pj_facts h1 HL.out
        have HX2 := hid x2
        have HX3 := hid x3
        have HJ : Hid (j + 1 ≤ t.length) := hid h1
        have hB2 : Hid (∀ n, Blk (wr.drewN n) w2.heap.size 25 #[.int .i64 (vk rv), .int .i64 (vn rv), .string (str (vs rv)), .int .u64 ((vf rv : Nat) : Int)]) := hid (fun _ => hB)
        clear h1 hx hq hy x2 x3 hh q16 y16 hB HE
        as_aux_lemma =>
        go_wp2_with fail
        go_quiet (fail)
        go_wp2
        try rw [x1]
        rw [HX2.out]
        exact ⟨⟨j + 1, by rw [← hap], rfl, hB2.out _, bdN _ hbw, HJ⟩, HX3.out⟩
      · have d1 : decide (j < t.length) = false := by simpa using h1
        have HF : Hid (r = 120 :: hex2 (t.take j)) := hid (by rw [HE.out, List.take_of_length_le (by omega)])
        clear h1 hh hB HE
        go_wp2
        go_ret
        exact ⟨by rw [HF.out]; rfl, hbw⟩
  · have t1 := e1 4 h 1 (by decide)
    have t2 := e1 4 h 2 (by decide)
    have t3 := e1 4 h 3 (by decide)
    have t4 : (vk rv == 4) = true := by rw [h]; rfl
    have HE := hid (pr4 h)
    clear e1 h
    go_wp2_with fail
    refine (rPrint_c _ HF.out _).mono ?_
    rintro e w3 ⟨rfl, hb3⟩
    have hb4 := HBEL.out.trans (hb3.mono HBEL.out.size)
    go_wp2
    go_ret
    exact ⟨by rw [HC.out, HE.out]; rfl, hb4⟩
end Go.Proofs.YtomgpkklbhdgiaaGreatDoor
