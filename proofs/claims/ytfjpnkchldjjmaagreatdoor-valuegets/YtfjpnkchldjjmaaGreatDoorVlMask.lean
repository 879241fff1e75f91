/- What value.Mask, value.head, value.RightMask and the three truths return. -/
import Derived.Test.YtfjpnkchldjjmaaGreatDoorVlW4
namespace Go.Proofs.YtfjpnkchldjjmaaGreatDoor
open Go.RowKit

def vHead (v : Vl) (n : Int) : Vl := if vk v = 3 then (3, 0, (vs v).take n.toNat, 0) else vNull
theorem right_0 {v : Vl} (h : vRight v = true) (h0 : vk v = 0) : v = vNull := by
  rcases vRight_cases h with e | ⟨n, e⟩ | e | e | ⟨s, hs, e⟩ | ⟨f, hf, e⟩
  · exact e
  · rw [e] at h0; exact absurd h0 (by show ¬ (1 : Int) = 0; decide)
  · rw [e] at h0; exact absurd h0 (by show ¬ (2 : Int) = 0; decide)
  · rw [e] at h0; exact absurd h0 (by show ¬ (2 : Int) = 0; decide)
  · rw [e] at h0; exact absurd h0 (by show ¬ (3 : Int) = 0; decide)
  · rw [e] at h0; exact absurd h0 (by show ¬ (4 : Int) = 0; decide)
theorem mask2 {v : Vl} (h : vRight v = true) (mn : Int) : vMaskR v 2 mn = (vk v, 0, [], 0) := by
  by_cases h0 : vk v = 0
  · rw [vMaskR_keep (.inr h0), right_0 h h0]; rfl
  · exact vMaskR_nought h0
theorem mask3 {v : Vl} (h : vRight v = true) (mn : Int) : vMaskR v 3 mn = vHead v (if 0 ≤ mn then mn else 0) := by
  by_cases h0 : vk v = 0
  · rw [vMaskR_keep (.inr h0), right_0 h h0]; rfl
  by_cases h3 : vk v = 3
  · rw [vMaskR_head h3]
    unfold vHead
    rw [if_pos h3]
    split
    · rfl
    · rw [show mn.toNat = (0 : Int).toNat by omega]
  · rw [vMaskR_hide (fun c => c.elim (by decide) h0) (by decide) (.inr h3)]
    unfold vHead
    rw [if_neg h3]
theorem maskx {v : Vl} (h : vRight v = true) {mk : Int} (h0 : mk ≠ 0) (h2 : mk ≠ 2) (h3 : mk ≠ 3) (mn : Int) : vMaskR v mk mn = vNull := by
  by_cases hk : vk v = 0
  · rw [vMaskR_keep (.inr hk), right_0 h hk]
  · exact vMaskR_hide (fun c => c.elim h0 hk) h2 (.inl h3)
theorem strn : str [] = ⟨#[]⟩ := rfl

theorem ext0 (s : List UInt8) (n : Nat) : (str s).extract 0 n = str (s.take n) := by rw [vstr_ext]; simp
theorem ext1 (s : List UInt8) (n : Nat) (h : s.length ≤ n) : (str s).extract 0 s.length = str (s.take n) := by rw [vstr_ext, List.take_of_length_le h]; simp
set_option maxRecDepth 20000 in
set_option maxHeartbeats 2000000 in
theorem head_c (v : Vl) (n : Int) (h0 : 0 ≤ n) (w : World) :
    Calls Tryz.prog 42 #[(.agg #[.int .i64 (vk v), .int .i64 (vn v), .string (str (vs v)), .int .u64 ((vf v : Nat) : Int)]), .int .i64 n] w fun e w' => e = .returned (.agg #[.int .i64 (vk (vHead v n)), .int .i64 (vn (vHead v n)), .string (str (vs (vHead v n))), .int .u64 ((vf (vHead v n) : Nat) : Int)]) ∧ Below w.heap.size w w' := by
  obtain ⟨k, vn0, s, f⟩ := v
  show Calls Tryz.prog 42 #[(.agg #[.int .i64 (k), .int .i64 (vn0), .string (str (s)), .int .u64 ((f : Nat) : Int)]), .int .i64 n] w _
  obtain ⟨a, rfl⟩ : ∃ a : Nat, n = (a : Int) := ⟨n.toNat, by omega⟩
  have hz : (str s).size = s.length := str_size s
  by_cases h3 : k = 3
  · subst h3
    have hv : vHead (3, vn0, s, f) (a : Int) = (3, 0, s.take a, 0) := rfl
    rw [hv]
    by_cases hle : a ≤ s.length
    · have e0 := ext0 s a
      have d1 : decide ((s.length : Int) < (a : Int)) = false := by simp; omega
      clear hv
      go_enter Tryz.func42, Tryz.ntmps42
      go_wp2
      all_goals refine bodyPost_ret (v := (.agg #[.int .i64 (3), .int .i64 (0), .string (str (s.take a)), .int .u64 ((0 : Nat) : Int)])) (by simp [results, Tryz.results42, go_sem]) rfl ⟨rfl, bel2 _ _ _⟩
    · have e0 := ext1 s a (by omega)
      have d1 : decide ((s.length : Int) < (a : Int)) = true := by simp; omega
      clear hv
      go_enter Tryz.func42, Tryz.ntmps42
      go_wp2
      all_goals refine bodyPost_ret (v := (.agg #[.int .i64 (3), .int .i64 (0), .string (str (s.take a)), .int .u64 ((0 : Nat) : Int)])) (by simp [results, Tryz.results42, go_sem]) rfl ⟨rfl, bel2 _ _ _⟩
  · have hv : vHead (k, vn0, s, f) (a : Int) = vNull := if_neg h3
    rw [hv]
    have d1 : (k != 3) = true := by simpa using h3
    clear hv h3
    go_enter Tryz.func42, Tryz.ntmps42
    go_wp2
    refine bodyPost_ret (v := (.agg #[.int .i64 (0), .int .i64 (0), .string (str ([])), .int .u64 ((0 : Nat) : Int)])) (by simp [results, Tryz.results42, go_sem, strn]) rfl ⟨rfl, bel2 _ _ _⟩
theorem Blk.v2 {w : World} {g : Nat} {t : TypeId} {a b : Value} (h : Blk w g t #[a, b]) : w.cell? ⟨g, 0, none⟩ = some a ∧ w.cell? ⟨g, 1, none⟩ = some b := ⟨by simpa using h.cell 0, by simpa using h.cell 1⟩
theorem three_boxes {w : World} {t u t' : TypeId} {cs ds es : Array Value} {wz : World} (hb : Below (((w.alloc (.cells cs t)).alloc (.cells ds u)).alloc (.cells es t')).heap.size (((w.alloc (.cells cs t)).alloc (.cells ds u)).alloc (.cells es t')) wz) :
    Blk wz w.heap.size t cs ∧ Blk wz (w.heap.size + 1) u ds ∧ Blk wz (w.heap.size + 2) t' es ∧ Below w.heap.size w wz := by
  have s1 := sz1 w (.cells cs t)
  have s2 := sz1 (w.alloc (.cells cs t)) (.cells ds u)
  have s3 := sz1 ((w.alloc (.cells cs t)).alloc (.cells ds u)) (.cells es t')
  have h1 := (((Blk.new w t cs).old (.cells ds u)).old (.cells es t')).bel hb (by omega)
  have h2 := ((Blk.new (w.alloc (.cells cs t)) u ds).old (.cells es t')).bel hb (by omega)
  have h3 := (Blk.new ((w.alloc (.cells cs t)).alloc (.cells ds u)) t' es).bel hb (by omega)
  rw [s1] at h2
  rw [s2, s1] at h3
  exact ⟨h1, h2, h3, ((bel2 w (.cells cs t) (.cells ds u)).alloc (by omega) (.cells es t')).trans (hb.mono (by omega))⟩

set_option maxRecDepth 20000 in
set_option maxHeartbeats 2000000 in
theorem vmask_c (v : Vl) (hf : vf v < 18446744073709551616) (mk mn : Int) (w : World) :
    Calls Tryz.prog 15 #[(.agg #[.int .i64 (vk v), .int .i64 (vn v), .string (str (vs v)), .int .u64 ((vf v : Nat) : Int)]), .agg #[.int .i64 mk, .int .i64 mn]] w fun e w' => e = .returned (.agg #[.int .i64 (vk (vMask v mk mn)), .int .i64 (vn (vMask v mk mn)), .string (str (vs (vMask v mk mn))), .int .u64 ((vf (vMask v mk mn) : Nat) : Int)]) ∧ Below w.heap.size w w' := by
  have HA := hid (fun wx => rightOrNull_c v hf wx)
  have HR := hid (vRt_right v)
  have HC : Hid (vMask v mk mn = vMaskR (vRt v) mk mn) := hid rfl
  generalize vMask v mk mn = r at *
  generalize vRt v = rv at *
  clear hf
  go_enter Tryz.func15, Tryz.ntmps15
  go_wp2_with fail
  refine (HA.out _).mono ?_
  rintro e w2 ⟨rfl, hb2⟩
  obtain ⟨B1, B2, B3, hbel⟩ := three_boxes hb2
  obtain ⟨p0, p1, p2, p3, pf⟩ := B1.v4
  obtain ⟨q0, q1⟩ := B2.v2
  obtain ⟨r0, r1, r2, r3, rf⟩ := B3.v4
  clear HA hb2 B2
  by_cases m0 : mk = 0
  · have HE : Hid (r = rv) := hid (by rw [HC.out]; exact vMaskR_keep (.inl m0))
    have t0 : (mk == 0) = true := by rw [m0]; rfl
    clear HC HR m0 B1 B3
    have hx := HE.out
    subst hx
    clear HE
    go_wp2
    refine bodyPost_ret (v := (.agg #[.int .i64 (vk r), .int .i64 (vn r), .string (str (vs r)), .int .u64 ((vf r : Nat) : Int)])) (by simp [results, Tryz.results15, go_sem, r0, r1, r2, r3]) rfl ⟨rfl, bel4 (bel4 hbel (by omega) _ _ _ _) (by omega) _ _ _ _⟩
  have t0 : (mk == 0) = false := by simpa using m0
  by_cases m2 : mk = 2
  · have HE : Hid (r = (vk rv, 0, [], 0)) := hid (by rw [HC.out, m2]; exact mask2 HR.out mn)
    have t2 : (mk == 2) = true := by rw [m2]; rfl
    clear HC HR m0 m2 B1 B3
    go_wp2
    refine bodyPost_ret (v := (.agg #[.int .i64 (vk rv), .int .i64 (0), .string (str ([])), .int .u64 ((0 : Nat) : Int)])) (by simp [results, Tryz.results15, go_sem, r0, r1, r2, r3, strn]) rfl ⟨by rw [HE.out]; rfl, bel4 (bel4 hbel (by omega) _ _ _ _) (by omega) _ _ _ _⟩
  have t2 : (mk == 2) = false := by simpa using m2
  by_cases m3 : mk = 3
  · have t3 : (mk == 3) = true := by rw [m3]; rfl
    obtain ⟨n, hn⟩ : ∃ n, n = if 0 ≤ mn then mn else 0 := ⟨_, rfl⟩
    have HE : Hid (r = vHead rv n) := hid (by rw [HC.out, m3, hn]; exact mask3 HR.out mn)
    have h0 : Hid (0 ≤ n) := hid (by rw [hn]; split <;> omega)
    have e1 : (if mn < 0 then 0 else mn) = n := by rw [hn]; split <;> split <;> omega
    have e2 : (if 0 < mn then mn else 0) = n := by rw [hn]; split <;> split <;> omega
    have e3 : max mn 0 = n := by rw [hn]; split <;> omega
    have e4 : (if 0 ≤ mn then mn else 0) = n := hn.symm
    have e5 : (if mn ≤ 0 then 0 else mn) = n := by rw [hn]; split <;> split <;> omega
    clear hn HC HR m0 m2 m3
    have hB := B3.far4 (h' := w.heap.size) (by omega) (.int .i64 (vk rv)) (.int .i64 (vn rv)) (.string (str (vs rv))) (.int .u64 ((vf rv : Nat) : Int))
    have hbel2 := bel4 (g := w.heap.size) hbel (Nat.le_refl _) (.int .i64 (vk rv)) (.int .i64 (vn rv)) (.string (str (vs rv))) (.int .u64 ((vf rv : Nat) : Int))
    clear B1 B3 hbel
    go_wp2_with fail
    refine (head_c rv n h0.out _).mono ?_
    rintro e w3 ⟨rfl, hb3⟩
    obtain ⟨s0, s1, s2, s3, sf⟩ := Blk.v4 (hB.bel hb3 hB.lt)
    have hbel3 := hbel2.trans (hb3.mono hbel2.size)
    clear hB hbel2 hb3 p0 p1 p2 p3 pf q0 q1 r0 r1 r2 r3 rf
    rw [← HE.out]
    go_wp2
    refine bodyPost_ret (v := (.agg #[.int .i64 (vk r), .int .i64 (vn r), .string (str (vs r)), .int .u64 ((vf r : Nat) : Int)])) (by simp [results, Tryz.results15, go_sem, s0, s1, s2, s3]) rfl ⟨rfl, bel4 hbel3 (by omega) _ _ _ _⟩
  · have t3 : (mk == 3) = false := by simpa using m3
    have HE : Hid (r = vNull) := hid (by rw [HC.out]; exact maskx HR.out m0 m2 m3 mn)
    clear HC HR m0 m2 m3 B1 B3
    go_wp2
    refine bodyPost_ret (v := (.agg #[.int .i64 (0), .int .i64 (0), .string (str ([])), .int .u64 ((0 : Nat) : Int)])) (by simp [results, Tryz.results15, go_sem, r0, r1, r2, r3, strn]) rfl ⟨by rw [HE.out]; rfl, bel4 (bel4 hbel (by omega) _ _ _ _) (by omega) _ _ _ _⟩

theorem not_c (a : Int) (w : World) : Calls Tryz.prog 17 #[.int .i64 a] w fun e w' => e = .returned (.int .i64 (tNot a)) ∧ w' = w := by
  by_cases h0 : a = 0
  · subst h0
    go_enter Tryz.func17, Tryz.ntmps17
    go_wp2
    go_ret
    exact ⟨rfl, rfl⟩
  by_cases h1 : a = 1
  · subst h1
    go_enter Tryz.func17, Tryz.ntmps17
    go_wp2
    go_ret
    exact ⟨rfl, rfl⟩
  have d0 : (a == 0) = false := by simpa using h0
  have d1 : (a == 1) = false := by simpa using h1
  have HE : Hid (tNot a = 2) := hid (by unfold tNot; rw [if_neg h0, if_neg h1])
  go_enter Tryz.func17, Tryz.ntmps17
  go_wp2
  go_ret
  exact ⟨by rw [HE.out]; rfl, rfl⟩
theorem and_c (a b : Int) (w : World) : Calls Tryz.prog 18 #[.int .i64 a, .int .i64 b] w fun e w' => e = .returned (.int .i64 (tAnd a b)) ∧ w' = w := by
  by_cases h0 : a = 0
  · have d0 : (a == 0) = true := by rw [h0]; rfl
    have HE : Hid (tAnd a b = 0) := hid (by unfold tAnd; exact if_pos (.inl h0))
    clear h0
    go_enter Tryz.func18, Tryz.ntmps18
    go_wp2
    go_ret
    exact ⟨by rw [HE.out]; rfl, rfl⟩
  have d0 : (a == 0) = false := by simpa using h0
  by_cases g0 : b = 0
  · have c0 : (b == 0) = true := by rw [g0]; rfl
    have HE : Hid (tAnd a b = 0) := hid (by unfold tAnd; exact if_pos (.inr g0))
    clear h0 g0
    go_enter Tryz.func18, Tryz.ntmps18
    go_wp2
    go_ret
    exact ⟨by rw [HE.out]; rfl, rfl⟩
  have c0 : (b == 0) = false := by simpa using g0
  by_cases h1 : a = 1
  · have d1 : (a == 1) = true := by rw [h1]; rfl
    by_cases g1 : b = 1
    · have c1 : (b == 1) = true := by rw [g1]; rfl
      have HE : Hid (tAnd a b = 1) := hid (by unfold tAnd; rw [if_neg (by omega), if_pos ⟨h1, g1⟩])
      clear h0 g0 h1 g1
      go_enter Tryz.func18, Tryz.ntmps18
      go_wp2
      go_ret
      exact ⟨by rw [HE.out]; rfl, rfl⟩
    · have c1 : (b == 1) = false := by simpa using g1
      have HE : Hid (tAnd a b = 2) := hid (by unfold tAnd; rw [if_neg (by omega), if_neg (by omega)])
      clear h0 g0 h1 g1
      go_enter Tryz.func18, Tryz.ntmps18
      go_wp2
      go_ret
      exact ⟨by rw [HE.out]; rfl, rfl⟩
  · have d1 : (a == 1) = false := by simpa using h1
    have HE : Hid (tAnd a b = 2) := hid (by unfold tAnd; rw [if_neg (by omega), if_neg (by omega)])
    clear h0 g0 h1
    go_enter Tryz.func18, Tryz.ntmps18
    go_wp2
    go_ret
    exact ⟨by rw [HE.out]; rfl, rfl⟩
theorem or_c (a b : Int) (w : World) : Calls Tryz.prog 19 #[.int .i64 a, .int .i64 b] w fun e w' => e = .returned (.int .i64 (tOr a b)) ∧ w' = w := by
  go_enter Tryz.func19, Tryz.ntmps19
  go_wp2_with fail
  refine (not_c a _).mono ?_
  rintro e w1 ⟨rfl, rfl⟩
  go_wp2_with fail
  refine (not_c b _).mono ?_
  rintro e w2 ⟨rfl, rfl⟩
  go_wp2_with fail
  refine (and_c _ _ _).mono ?_
  rintro e w3 ⟨rfl, rfl⟩
  go_wp2_with fail
  refine (not_c _ _).mono ?_
  rintro e w4 ⟨rfl, rfl⟩
  go_wp2
  go_ret
  exact ⟨rfl, rfl⟩
end Go.Proofs.YtfjpnkchldjjmaaGreatDoor
