/- What strongroomlaw09.Long returns. Nothing is assumed. -/
import Derived.Test.YtadhbjekbfdpiaaGreatFrameT
namespace Go.Proofs.YtadhbjekbfdpiaaGreat
open Go.RowKit

/-- An act that is short enough to be asked. -/
structure OpT.small (o : OpT) : Prop where
  l : o.Ln ≤ 20
  b : o.Bn ≤ 100
  k : o.Kn ≤ 100
  x : ∀ x ∈ o.l, x.nm.length ≤ 500 ∧ x.n ≤ 500
set_option maxRecDepth 100000 in
set_option maxHeartbeats 4000000 in
theorem long_c (o : OpT) (w : World) (hi : Nat) (ho : o.ok w hi) (hhi : hi ≤ w.heap.size) :
    Calls Tryz.prog 17 #[.agg #[.int .i64 o.kind, .int .i64 o.i, .int .i64 o.fr, .slice o.LA o.Ln o.Lc, .slice o.BA o.Bn o.Bc, .slice o.KA o.Kn o.Kc, .int .i64 o.k.t, .int .i64 o.k.c, .int .i64 o.k.e]] w fun e w' =>
      ∃ z : Int, e = .returned (.int .i64 z) ∧ Below w.heap.size w w' ∧ (z = 1000 ∨ ((0 ≤ z ∧ z ≤ 220) ∧ o.small)) := by
  obtain ⟨kind, i, fr, LA, n, Lc, l, BA, Bn, Bc, b, KA, Kn, Kc, ks, ky⟩ := o
  have HO := hid ho
  have HLN : Hid (l.length = n) := hid ho.l.len
  have HI := hid hhi
  clear ho hhi
  dsimp only
  go_enter Tryz.func17, Tryz.ntmps17
  have hb1 : Below w.heap.size w (w.alloc (.cells #[.int .i64 kind, .int .i64 i, .int .i64 fr, .slice LA n Lc, .slice BA Bn Bc, .slice KA Kn Kc, .int .i64 ky.t, .int .i64 ky.c, .int .i64 ky.e] 56)) := (Below.refl _ _).alloc (Nat.le_refl _) _
  have HB1 := hid hb1
  have hk1 := Blk.new w 56 #[.int .i64 kind, .int .i64 i, .int .i64 fr, .slice LA n Lc, .slice BA Bn Bc, .slice KA Kn Kc, .int .i64 ky.t, .int .i64 ky.c, .int .i64 ky.e]
  obtain ⟨y3, y4, y5⟩ := And.intro ((hk1.cell 3).trans rfl) (And.intro ((hk1.cell 4).trans rfl) ((hk1.cell 5).trans rfl))
  clear hb1 hk1
  by_cases h1 : n ≤ 20
  case neg =>
    have m1 : decide ((n : Int) > 20) = true := decide_eq_true (by omega)
    have m2 : decide ((20 : Int) < (n : Int)) = true := decide_eq_true (by omega)
    have m3 : decide (20 < n) = true := decide_eq_true (by omega)
    clear h1
    go_wp2
    go_ret
    exact ⟨1000, rfl, HB1.out, .inl rfl⟩
  have m1 : decide ((20 : Int) < (n : Int)) = false := decide_eq_false (by omega)
  have m3 : decide (20 < n) = false := decide_eq_false (by omega)
  have H1 := hid h1
  clear h1
  by_cases h2 : Bn ≤ 100
  case neg =>
    have n1 : decide ((100 : Int) < (Bn : Int)) = true := decide_eq_true (by omega)
    have n3 : decide (100 < Bn) = true := decide_eq_true (by omega)
    clear h2
    go_wp2
    go_ret
    exact ⟨1000, rfl, HB1.out, .inl rfl⟩
  have n1 : decide ((100 : Int) < (Bn : Int)) = false := decide_eq_false (by omega)
  have n3 : decide (100 < Bn) = false := decide_eq_false (by omega)
  have H2 := hid h2
  clear h2
  by_cases h3 : Kn ≤ 100
  case neg =>
    have p1 : decide ((100 : Int) < (Kn : Int)) = true := decide_eq_true (by omega)
    have p3 : decide (100 < Kn) = true := decide_eq_true (by omega)
    clear h3
    go_wp2
    go_ret
    exact ⟨1000, rfl, HB1.out, .inl rfl⟩
  have p1 : decide ((100 : Int) < (Kn : Int)) = false := decide_eq_false (by omega)
  have p3 : decide (100 < Kn) = false := decide_eq_false (by omega)
  have s1 : wrap64 ((n : Int) + (Bn : Int)) = ((n + Bn : Nat) : Int) := by have := H1.out; have := H2.out; unfold wrap64; omega
  have s2 : wrap64 (((n + Bn : Nat) : Int) + (Kn : Int)) = ((n + Bn + Kn : Nat) : Int) := by have := H1.out; have := H2.out; unfold wrap64; omega
  have s3 : wrap64 ((n : Int) + (Bn : Int) + (Kn : Int)) = ((n + Bn + Kn : Nat) : Int) := by have := H1.out; have := H2.out; unfold wrap64; omega
  have H3 := hid h3
  clear h3
  go_wp2_with fail
  clear s1 s2 s3 m1 m3 n1 n3 p1 p3 y3 y4 y5
  go_loopg [36] n (fun kk iv w2 => ∃ (j : Nat), iv = .int .i64 (j : Int) ∧ Hid (kk = n - j) ∧ Hid (j ≤ n) ∧ Hid (∀ x ∈ l.take j, x.nm.length ≤ 500 ∧ x.n ≤ 500) ∧ Hid (Below w.heap.size w w2))
  case atStart => exact ⟨0, rfl, hid (by omega), hid (Nat.zero_le _), hid (fun x hx => by simp at hx), HB1⟩
  case round =>
  obtain ⟨j, rfl, hgk, hj, hok, hB⟩ := hrel
  clear HB1
  have HN : Hid (n ≤ 1000) := hid (by have := H1.out; omega)
  rename World => w2
  rcases Nat.lt_or_ge j n with hlt | hge
  · have HJN := hid hlt
    have hjl : j < l.length := by rw [HLN.out]; exact hlt
    have j1 : (0 : Int) ≤ (j : Int) := by omega
    have j2 : (j : Int) < (n : Int) := by omega
    have j3 : decide ((j : Int) < (n : Int)) = true := by simpa using hlt
    have j4 : decide (j < n) = true := by simpa using hlt
    have wj : wrap64 ((j : Int) + 1) = ((j + 1 : Nat) : Int) := by have := HN.out; unfold wrap64; omega
    obtain ⟨lb, off, rfl, -, hbl, hr0, hx0⟩ := (HO.out.l.keep hB.out.size (fun q hq _ => hB.out.block q (Nat.lt_of_lt_of_le hq HI.out))).at_ hjl
    have HX := hid hx0
    have HXM := hid (List.getElem_mem hjl)
    have HTK := hid (List.take_succ_eq_append_getElem hjl)
    generalize l[j] = x at *
    obtain ⟨c0, c1, c2, c3, c4, c5⟩ := range6 hr0
    have hb2 : Below w2.heap.size w2 (w2.alloc (.cells #[.string (str (x).nm), .int .i64 (x).k.t, .int .i64 (x).k.c, .int .i64 (x).k.e, .slice (x).A (x).n (x).c, .bool (x).dr] 94)) := (Below.refl _ _).alloc (Nat.le_refl _) _
    have HB2 := hid (hB.out.trans (hb2.mono hB.out.size))
    have hk2 := Blk.new w2 94 #[.string (str (x).nm), .int .i64 (x).k.t, .int .i64 (x).k.c, .int .i64 (x).k.e, .slice (x).A (x).n (x).c, .bool (x).dr]
    obtain ⟨x0, x1, x2, x3, x4, x5⟩ := hcB_cells (x := x) hk2
    clear hlt hjl hbl hr0 hx0 hb2 hB hk2
    by_cases h5 : 500 < max x.nm.length x.n
    · have q2 : decide ((500 : Int) < max ((str x.nm).size : Int) (x.n : Int)) = true := decide_eq_true (by rw [str_size]; omega)
      clear h5
      go_wp2
      go_ret
      exact ⟨1000, rfl, HB2.out, .inl rfl⟩
    · have q2 : decide ((500 : Int) < max ((str x.nm).size : Int) (x.n : Int)) = false := decide_eq_false (by rw [str_size]; omega)
      have HOK : Hid (∀ y ∈ l.take (j + 1), y.nm.length ≤ 500 ∧ y.n ≤ 500) := hid (fun y hy => by
        rw [HTK.out, List.mem_append, List.mem_singleton] at hy
        rcases hy with hy | hy
        · exact hok.out y hy
        · rw [hy]; omega)
      clear h5 hok
      go_wp2_with fail
      go_roundg (n - (j + 1))
      case measure => have := hgk.out; have := HJN.out; omega
      case rel => exact ⟨j + 1, by first | rfl | rw [wj], hid rfl, hid HJN.out, HOK, HB2⟩
  · have hjn : j = n := by have := hj.out; omega
    subst hjn
    have j2 : ¬ (j : Int) < (j : Int) := by omega
    have HT : Hid (l.take j = l) := hid (by rw [← HLN.out, List.take_length])
    have HOK : Hid (∀ y ∈ l, y.nm.length ≤ 500 ∧ y.n ≤ 500) := hid (by have := hok.out; rwa [HT.out] at this)
    clear hge hj hgk hok HT
    go_wp2
    go_ret
    exact ⟨_, rfl, hB.out, .inr ⟨by have := H1.out; have := H2.out; have := H3.out; unfold wrap64; omega, H1.out, H2.out, H3.out, HOK.out⟩⟩
end Go.Proofs.YtadhbjekbfdpiaaGreat
