/- What the package pack's reader does: each of its methods, of a reader that is good, one that is bad and one that is nil; whatever the world. -/
import Derived.Test.YtejmllpffocneaaPkTx
namespace Go.Proofs.Ytejmllpffocneaa
open Go.RowKit

theorem Try.cellsR : Try.prog.cellsOf 65 = 2 := by kernel_rfl

/-- A good reader in block g, with l left to read, which lies in blocks from lo on and below g. -/
def Rd (w : World) (lo g : Nat) (l : List UInt8) : Prop :=
  ∃ A n c, Blk w g 65 #[.slice A n c, .bool false] ∧ n ≤ c ∧ lo ≤ g ∧ c ≤ 9223372036854775807 ∧ Bts w lo g A n l
/-- A bad one. -/
def Bad (w : World) (g : Nat) : Prop := Blk w g 65 #[.slice none 0 0, .bool true]

theorem Rd.keep {w w' : World} {lo g : Nat} {l : List UInt8} (h : Rd w lo g l) (hk : ∀ k, lo ≤ k → k ≤ g → w'.heap[k]? = w.heap[k]?) : Rd w' lo g l := by
  obtain ⟨A, n, c, hb, hn, hlo, hc, hr⟩ := h
  exact ⟨A, n, c, hb.keep (hk g hlo (Nat.le_refl _)), hn, hlo, hc, hr.keep fun k h1 h2 => hk k h1 (by omega)⟩
theorem Rd.lt {w : World} {lo g : Nat} {l : List UInt8} (h : Rd w lo g l) : g < w.heap.size := by
  obtain ⟨A, n, c, hb, _⟩ := h
  exact hb.lt

theorem Rd.moved {w : World} {lo g n' c' : Nat} {u : Value} {A' : Option Addr} {l' : List UInt8} (hb : Blk w g 65 #[u, .bool false]) (hlo : lo ≤ g) (hn : n' ≤ c') (hc : c' ≤ 9223372036854775807) (hr : Bts w lo g A' n' l') :
    Rd (w.setCell ⟨g, 0, none⟩ (.slice A' n' c')) lo g l' :=
  ⟨A', n', c', hb.store 0 _, hn, hlo, hc, hr.keep fun k _ h2 => Below.heap_setCell w ⟨g, 0, none⟩ _ k (by simp; omega)⟩

set_option maxRecDepth 100000 in
theorem spoilt_good (w : World) (lo g : Nat) (l : List UInt8) (h : Rd w lo g l) :
    Calls Try.prog 43 #[.pointer (some ⟨g, 0, none⟩)] w fun e w' => e = .returned (.bool false) ∧ w = w' := by
  obtain ⟨A, n, c, hb, hn, hlo, hc, hr⟩ := h
  have h1 := hb.cell 1
  simp at h1
  go_enter Try.func43, Try.ntmps43
  go_wp2
  go_ret
  exact ⟨rfl, rfl⟩
set_option maxRecDepth 100000 in
theorem spoilt_bad (w : World) (g : Nat) (h : Bad w g) :
    Calls Try.prog 43 #[.pointer (some ⟨g, 0, none⟩)] w fun e w' => e = .returned (.bool true) ∧ w = w' := by
  have h1 := Blk.cell h 1
  simp at h1
  go_enter Try.func43, Try.ntmps43
  go_wp2
  go_ret
  exact ⟨rfl, rfl⟩
set_option maxRecDepth 100000 in
theorem spoilt_nil (w : World) :
    Calls Try.prog 43 #[.pointer none] w fun e w' => e = .returned (.bool true) ∧ w = w' := by
  go_enter Try.func43, Try.ntmps43
  go_wp2
  go_ret
  exact ⟨rfl, rfl⟩
set_option maxRecDepth 100000 in
theorem spoil_good (w : World) (g : Nat) (u v : Value) (h : Blk w g 65 #[u, v]) :
    Calls Try.prog 44 #[.pointer (some ⟨g, 0, none⟩)] w fun e w' => e = .returned (.tuple #[]) ∧ Bad w' g ∧ w.grownBy w' (some g) := by
  have h0 := Blk.cell h 0
  have h1 := Blk.cell h 1
  have f0 := Blk.frozen h 0
  have f1 := Blk.frozen h 1
  simp at h0 h1
  go_enter Try.func44, Try.ntmps44
  go_wp2
  go_end0
  refine ⟨rfl, ?_, (grown_setCell w g 1 _).trans (grown_setCell _ g 0 _)⟩
  exact (h.store 1 _).store 0 _

set_option maxRecDepth 100000 in
/-- Open(b). -/
theorem open_c (A : Option Addr) (n c : Nat) (l : List UInt8) (w : World) (hr : Bts w 0 w.heap.size A n l) (hn : n ≤ 1000000000) :
    Calls Try.prog 34 #[.slice A n c] w fun e w' => ∃ g, e = .returned (.pointer (some ⟨g, 0, none⟩)) ∧ Rd w' w.heap.size g l ∧ w'.heap.size = g + 1 ∧ Below w.heap.size w w' := by
  go_enter Try.func34, Try.ntmps34
  go_wp2_with fail
  refine (copyOf_c A n c 0 l w hr (by omega)).mono ?_
  rintro e w1 ⟨A1, c1, rfl, hc1, hown, hb1⟩
  go_wp2
  go_ret
  have hcap := own_cap hown
  unfold maxLen at hcap
  refine ⟨_, rfl, ⟨A1, l.length, c1, Blk.new _ _ _, hc1, hb1.size, hcap, ?_⟩, by simp, hb1.alloc hb1.size _⟩
  exact (Bts.own hown).keep fun k _ h2 => Below.heap_alloc w1 _ k h2

set_option maxRecDepth 100000 in
theorem byte_bad (w : World) (g : Nat) (h : Bad w g) :
    Calls Try.prog 36 #[.pointer (some ⟨g, 0, none⟩)] w fun e w' => e = .returned (.tuple #[.int .u8 0, .bool false]) ∧ w = w' := by
  go_enter Try.func36, Try.ntmps36
  go_wp2_with fail
  refine (spoilt_bad w g h).mono ?_
  rintro e w' ⟨rfl, rfl⟩
  go_wp2
  go_ret2
  exact ⟨rfl, rfl⟩
set_option maxRecDepth 100000 in
theorem byte_nil (w : World) :
    Calls Try.prog 36 #[.pointer none] w fun e w' => e = .returned (.tuple #[.int .u8 0, .bool false]) ∧ w = w' := by
  go_enter Try.func36, Try.ntmps36
  go_wp2_with fail
  refine (spoilt_nil w).mono ?_
  rintro e w' ⟨rfl, rfl⟩
  go_wp2
  go_ret2
  exact ⟨rfl, rfl⟩
set_option maxRecDepth 100000 in
theorem byte_end (w : World) (lo g : Nat) (h : Rd w lo g []) :
    Calls Try.prog 36 #[.pointer (some ⟨g, 0, none⟩)] w fun e w' => e = .returned (.tuple #[.int .u8 0, .bool false]) ∧ Bad w' g ∧ w.grownBy w' (some g) := by
  have hs := spoilt_good w lo g [] h
  obtain ⟨A, n, c, hb, hn, hlo, hc, hr⟩ := h
  have h0 := hb.cell 0
  have hl := hr.len
  simp at h0 hl
  subst hl
  go_enter Try.func36, Try.ntmps36
  go_wp2_with fail
  refine hs.mono ?_
  rintro e w' ⟨rfl, rfl⟩
  go_wp2_with fail
  refine (spoil_good w g _ _ hb).mono ?_
  rintro e w' ⟨rfl, hbad, hgr⟩
  go_wp2
  go_ret2
  exact ⟨rfl, hbad, hgr⟩
set_option maxRecDepth 100000 in
theorem byte_good (w : World) (lo g : Nat) (b : UInt8) (l : List UInt8) (h : Rd w lo g (b :: l)) :
    Calls Try.prog 36 #[.pointer (some ⟨g, 0, none⟩)] w fun e w' => e = .returned (.tuple #[.int .u8 (b.toNat : Int), .bool true]) ∧ Rd w' lo g l ∧ w.grownBy w' (some g) := by
  have hs := spoilt_good w lo g (b :: l) h
  obtain ⟨A, n, c, hb, hn, hlo, hc, hr⟩ := h
  have h0 := hb.cell 0
  have f0 := hb.frozen 0
  have hl := hr.len
  simp at h0 hl
  obtain ⟨k, off, rfl, h1, h2, hcell⟩ := hr.at_ (k := 0) (by omega)
  simp at hcell
  have hne : ((n : Int) == 0) = false := by simp; omega
  have hpos : (0 : Int) < (n : Int) := by omega
  have H := hid hl
  clear hl
  go_enter Try.func36, Try.ntmps36
  go_wp2_with fail
  refine hs.mono ?_
  rintro e w' ⟨rfl, rfl⟩
  go_wp2
  all_goals go_ret2
  all_goals refine ⟨rfl, ?_, grown_setCell w g 0 _⟩
  · exact Rd.moved hb hlo (by omega) (by omega) (by have := hr.take (k := 0) (by omega); have h3 := H.out; have : l = [] := List.eq_nil_of_length_eq_zero (by omega); subst this; have h4 : n - 1 = 0 := by simp at h3; omega
                                                    rw [h4]; exact Bts.nil _ _ _ _)
  · exact Rd.moved hb hlo (by omega) (by omega) (by simpa using hr.drop 1)

theorem i64_not_ (a : Nat) (ha : a < 9223372036854775808) : bits .xor .i64 (-1) (a : Int) = -1 - (a : Int) := by
  show IntKind.i64.wrap ((BitVec.ofInt 64 (-1) ^^^ BitVec.ofInt 64 (a : Int)).toNat : Int) = _
  have h1 : BitVec.ofInt 64 (-1) = BitVec.allOnes 64 := by decide
  rw [h1, BitVec.allOnes_xor, BitVec.toNat_not, ofInt_u64 a (by omega), IntKind.wrap_i64]
  omega
theorem and127b (c : Nat) (h : c < 256) : bits .and .u8 (c : Int) 127 = (c : Int) % 128 := by
  have h1 := u8_and_nat c 127 h (by omega)
  have h2 : c &&& 127 = c % 128 := Nat.and_two_pow_sub_one_eq_mod c 7
  rw [h2] at h1
  simpa using h1
theorem or_step (n c i : Nat) (hn : n < 128 ^ i) (hb : n + c % 128 * 128 ^ i < 18446744073709551616) : bits .or .u64 (n : Int) ((c % 128 * 128 ^ i : Nat) : Int) = ((n + c % 128 * 128 ^ i : Nat) : Int) := by
  rw [u64_or_nat n _ (by omega) (by omega)]
  have h2 : (128 : Nat) ^ i = 2 ^ (7 * i) := by rw [Nat.pow_mul]
  have h3 := Nat.shiftLeft_add_eq_or_of_lt (b := n) (i := 7 * i) (by rw [← h2]; exact hn) (c % 128)
  rw [Nat.shiftLeft_eq, ← h2] at h3
  rw [Nat.or_comm, ← h3, Nat.add_comm]
theorem shl_step (c i : Nat) (hi : i ≤ 9) (hc : i = 9 → c ≤ 1) : IntKind.u64.wrap ((c : Int) % 128 * 2 ^ min (7 * (i : Int)).toNat 64) = ((c % 128 * 128 ^ i : Nat) : Int) := by
  have h1 : min (7 * (i : Int)).toNat 64 = 7 * i := by omega
  have h2 : (128 : Nat) ^ i = 2 ^ (7 * i) := by rw [Nat.pow_mul]
  have h4 : (0 : Nat) < 128 ^ i := Nat.pow_pos (by omega)
  have h3 := step_u64 (n := 0) (c := c) (i := i) h4 hi hc
  rw [h1]
  have h5 : (c : Int) % 128 * 2 ^ (7 * i) = ((c % 128 * 128 ^ i : Nat) : Int) := by rw [h2]; simp
  rw [h5]
  exact IntWalk.u64_in _ (by omega)

theorem step_val (n c i : Nat) (hn : n < 128 ^ i) (hi : i ≤ 9) (hc : i = 9 → c ≤ 1) : bits .or .u64 (n : Int) (IntKind.u64.wrap ((c : Int) % 128 * 2 ^ (7 * i))) = ((n + c % 128 * 128 ^ i : Nat) : Int) := by
  have h := shl_step c i hi hc
  have h1 : min (7 * (i : Int)).toNat 64 = 7 * i := by omega
  rw [h1] at h
  rw [h, or_step n c i hn (step_u64 hn hi hc)]

def Two (k : IntKind) (x : Int) (y : Int) (w : World) (e : Ending) (w' : World) : Prop := e = .returned (.tuple #[.int k x, .int .i64 y]) ∧ w = w'

set_option maxRecDepth 100000 in
set_option maxHeartbeats 1000000 in
theorem firstNatural_c (A : Option Addr) (n c : Nat) (l : List UInt8) (w : World) (lo hi : Nat) (hr : Bts w lo hi A n l) (hn : n ≤ 9223372036854775807) :
    Calls Try.prog 45 #[.slice A n c] w (Two .u64 ((rd l).1 : Int) ((rd l).2 : Int) w) := by
  go_enter Try.func45, Try.ntmps45
  go_wp2
  go_loop [4, 9] (fun x i => ∃ k q : Nat, k ≤ n ∧ k ≤ 9 ∧ i = .int .i64 k ∧ x = .int .u64 (q : Int) ∧ q < 128 ^ k ∧ Hid (rdN (l.drop k) k q = rd l)) (fun _ i => n - (intOf i).toNat)
  case atStart => exact ⟨0, 0, Nat.zero_le _, Nat.zero_le _, rfl, rfl, by simp, rfl⟩
  case round =>
    obtain ⟨k, q, hk, hk9, rfl, rfl, hq, hrd⟩ := hrel
    by_cases hlt : k < n
    · obtain ⟨g, off, rfl, h1, h2, hcell⟩ := hr.at_ hlt
      have hkl : k < l.length := by rw [hr.len]; exact hlt
      have hdrop : l.drop k = l[k] :: l.drop (k + 1) := List.drop_eq_getElem_cons hkl
      have hb256 : l[k].toNat < 256 := l[k].toNat_lt
      have hrd' : Hid (rdN (l[k] :: l.drop (k + 1)) k q = rd l) := by rw [← hdrop]; exact hrd
      clear hrd hdrop
      generalize hcc : l[k] = cc at *
      have hCC := hid hcc
      clear hcc
      have hc0 : 0 ≤ (cc.toNat : Int) := by omega
      by_cases hover : k = 9 ∧ 1 < cc.toNat
      · obtain ⟨rfl, hgt⟩ := hover
        have e0 : ((9 : Int) == 9) = true := rfl
        have e1 : decide ((1 : Int) < (cc.toNat : Int)) = true := by simp; omega
        go_wp2
        go_ret2
        have := hrd'.out
        rw [rdN_over hgt] at this
        rw [← this]
        exact ⟨rfl, rfl⟩
      · have hc9 : k = 9 → cc.toNat ≤ 1 := by omega
        have r1 := and127b cc.toNat hb256
        have hu := step_u64 hq hk9 hc9
        have hval := hid (step_val q cc.toNat k hq hk9 hc9)
        have hsl := step_lt (c := cc.toNat) hq
        have hcase : (((k : Int) == 9) = true ∧ decide ((1 : Int) < (cc.toNat : Int)) = false) ∨ ((k : Int) == 9) = false := by
          by_cases h9 : k = 9
          · left; subst h9; exact ⟨rfl, by simp; omega⟩
          · right; simp; omega
        rcases hcase with ⟨e0, e1⟩ | e0
        all_goals
          by_cases hge : 128 ≤ cc.toNat
          · have e2 : decide ((128 : Int) ≤ (cc.toNat : Int)) = true := by simp; omega
            have hrd2 := hid (hrd'.out.symm.trans (rdN_on hover hge))
            go_wp2
            refine ⟨⟨k + 1, q + cc.toNat % 128 * 128 ^ k, by omega, by omega, by go_num, by rw [hval.out], hsl, hrd2.out.symm⟩, by simp [intOf]; omega⟩
          · have e2 : decide ((128 : Int) ≤ (cc.toNat : Int)) = false := by simp; omega
            by_cases hz : cc.toNat = 0
            · by_cases hk0 : 0 < k
              · have hrd2 := hid (hrd'.out.symm.trans (rdN_zero hover hz hk0))
                have e3 : ((cc.toNat : Int) == 0) = true := by simp; omega
                have e4 : decide ((0 : Int) < (k : Int)) = true := by simp; omega
                go_wp2
                go_ret2
                rw [hrd2.out]
                exact ⟨rfl, rfl⟩
              · have hrd2 := hid (hrd'.out.symm.trans (rdN_end hover (by omega) (by omega)))
                obtain rfl : k = 0 := by omega
                obtain rfl : q = 0 := by simpa using hq
                obtain rfl : cc = 0 := UInt8.toNat_inj.1 hz
                clear hval r1 e2 hge hz
                simp at hcell
                go_wp2
                all_goals go_ret2
                all_goals (rw [hrd2.out]; exact ⟨rfl, rfl⟩)
            · have hrd2 := hid (hrd'.out.symm.trans (rdN_end hover (by omega) (by omega)))
              have e3 : ((cc.toNat : Int) == 0) = false := by simp; omega
              go_wp2
              go_ret2
              rw [hrd2.out]
              refine ⟨?_, rfl⟩
              rw [← hval.out]
              rfl
    · go_wp2
      go_ret2
      have h1 : k = n := by omega
      have := hrd.out
      rw [h1, List.drop_of_length_le (by rw [hr.len]; exact Nat.le_refl _), rdN_nil] at this
      rw [← this]
      exact ⟨rfl, rfl⟩

/-- r.left = r.left[k:] -/
theorem Rd.cut {w : World} {lo g n c k : Nat} {A : Option Addr} {l : List UInt8} (hb : Blk w g 65 #[.slice A n c, .bool false]) (hlo : lo ≤ g) (hn : n ≤ c) (hc : c ≤ 9223372036854775807) (hr : Bts w lo g A n l) (hk : k ≤ n) :
    Rd (w.setCell ⟨g, 0, none⟩ (.slice (if c = k then A else A.map (·.add k)) (n - k) (c - k))) lo g (l.drop k) := by
  refine Rd.moved hb hlo (by omega) (by omega) ?_
  rcases Nat.eq_zero_or_pos (n - k) with h0 | h0
  · have : l.drop k = [] := List.drop_of_length_le (by rw [hr.len]; omega)
    rw [this, h0]
    exact Bts.nil _ _ _ _
  · obtain ⟨g', off, rfl, _⟩ := hr.2 (by omega)
    rw [if_neg (by omega)]
    simp only [Option.map_some, add_plain]
    exact hr.drop k

def TwoB (k : IntKind) (x : Int) (b : Bool) (e : Ending) : Prop := e = .returned (.tuple #[.int k x, .bool b])

set_option maxRecDepth 100000 in
theorem rnat_bad (w : World) (g : Nat) (h : Bad w g) :
    Calls Try.prog 41 #[.pointer (some ⟨g, 0, none⟩)] w fun e w' => e = .returned (.tuple #[.int .u64 0, .bool false]) ∧ w = w' := by
  go_enter Try.func41, Try.ntmps41
  go_wp2_with fail
  refine (spoilt_bad w g h).mono ?_
  rintro e w' ⟨rfl, rfl⟩
  go_wp2
  go_ret2
  exact ⟨rfl, rfl⟩
set_option maxRecDepth 100000 in
theorem rnat_none (w : World) (lo g : Nat) (l : List UInt8) (h : Rd w lo g l) (hz : (rd l).2 = 0) :
    Calls Try.prog 41 #[.pointer (some ⟨g, 0, none⟩)] w fun e w' => e = .returned (.tuple #[.int .u64 0, .bool false]) ∧ Bad w' g ∧ w.grownBy w' (some g) := by
  have hs := spoilt_good w lo g l h
  obtain ⟨A, n, c, hb, hn, hlo, hc, hr⟩ := h
  have h0 := hb.cell 0
  simp at h0
  have hf := firstNatural_c A n c l w lo g hr (by omega)
  rw [hz] at hf
  clear hz
  go_enter Try.func41, Try.ntmps41
  go_wp2_with fail
  refine hs.mono ?_
  rintro e w' ⟨rfl, rfl⟩
  go_wp2_with fail
  refine hf.mono ?_
  rintro e w' ⟨rfl, rfl⟩
  go_wp2_with fail
  refine (spoil_good w g _ _ hb).mono ?_
  rintro e w' ⟨rfl, hbad, hgr⟩
  go_wp2
  go_ret2
  exact ⟨rfl, hbad, hgr⟩
set_option maxRecDepth 100000 in
theorem rnat_some (w : World) (lo g : Nat) (l : List UInt8) (h : Rd w lo g l) (hz : 0 < (rd l).2) :
    Calls Try.prog 41 #[.pointer (some ⟨g, 0, none⟩)] w fun e w' => e = .returned (.tuple #[.int .u64 ((rd l).1 : Int), .bool true]) ∧ Rd w' lo g (l.drop (rd l).2) ∧ w.grownBy w' (some g) := by
  have hs := spoilt_good w lo g l h
  obtain ⟨A, n, c, hb, hn, hlo, hc, hr⟩ := h
  have h0 := hb.cell 0
  have f0 := hb.frozen 0
  simp at h0
  have hf := firstNatural_c A n c l w lo g hr (by omega)
  have hle : (rd l).2 ≤ n := by rw [← hr.len]; exact rd_le l
  have hcut := fun k hk => Rd.cut (k := k) hb hlo hn hc hr hk
  generalize (rd l).2 = k at *
  generalize (rd l).1 = x at *
  have e1 : ((k : Int) == 0) = false := by simp; omega
  go_enter Try.func41, Try.ntmps41
  go_wp2_with fail
  refine hs.mono ?_
  rintro e w' ⟨rfl, rfl⟩
  go_wp2_with fail
  refine hf.mono ?_
  rintro e w' ⟨rfl, rfl⟩
  have hcutH := hid hcut
  clear hcut
  go_wp2
  all_goals go_ret2
  all_goals refine ⟨rfl, ?_, grown_setCell w g 0 _⟩
  · have := hcutH.out k hle
    simpa [h] using this
  · have := hcutH.out k hle
    rw [if_neg h] at this
    exact this

/-- The reader's Natural, all of it. -/
def RNat (w : World) (lo g : Nat) (l : List UInt8) (e : Ending) (w' : World) : Prop :=
  (0 < (rd l).2 ∧ e = .returned (.tuple #[.int .u64 ((rd l).1 : Int), .bool true]) ∧ Rd w' lo g (l.drop (rd l).2) ∧ w.grownBy w' (some g)) ∨
  ((rd l).2 = 0 ∧ e = .returned (.tuple #[.int .u64 0, .bool false]) ∧ Bad w' g ∧ w.grownBy w' (some g))

theorem ret_i64 {a b : Int} (h : a = b) : Ending.returned (.int .i64 a) = .returned (.int .i64 b) := by rw [h]
set_option maxRecDepth 100000 in
theorem unfolded_even (u : Nat) (w : World) (hu : u < 18446744073709551616) (h : u % 2 = 0) :
    Calls Try.prog 42 #[.int .u64 (u : Int)] w fun e w' => e = .returned (.int .i64 (unfold_ u)) ∧ w = w' := by
  have e1 : bits .and .u64 (u : Int) 1 = 0 := by
    have h1 := u64_and_nat u 1 hu (by omega)
    rw [show u &&& 1 = u % 2 from Nat.and_one_is_mod u, h] at h1
    simpa using h1
  go_enter Try.func42, Try.ntmps42
  go_wp2
  go_ret
  exact ⟨ret_i64 (by unfold unfold_; rw [if_pos h]; omega), rfl⟩
set_option maxRecDepth 100000 in
theorem unfolded_odd (u : Nat) (w : World) (hu : u < 18446744073709551616) (h : ¬ u % 2 = 0) :
    Calls Try.prog 42 #[.int .u64 (u : Int)] w fun e w' => e = .returned (.int .i64 (unfold_ u)) ∧ w = w' := by
  have e1 : bits .and .u64 (u : Int) 1 = 1 := by
    have h1 := u64_and_nat u 1 hu (by omega)
    rw [show u &&& 1 = u % 2 from Nat.and_one_is_mod u, show u % 2 = 1 by omega] at h1
    simpa using h1
  have b1 : (u : Int) / 2 ≤ 9223372036854775807 := by omega
  have e2 : bits .xor .i64 (-1) ((u : Int) / 2) = -1 - (u : Int) / 2 := by
    have := i64_not_ (u / 2) (by omega)
    simpa using this
  have h5 := hid h
  clear h
  go_enter Try.func42, Try.ntmps42
  go_wp2
  all_goals go_ret
  exact ⟨ret_i64 (by unfold unfold_; rw [if_neg h5.out]; omega), rfl⟩
theorem unfolded_c (u : Nat) (w : World) (hu : u < 18446744073709551616) :
    Calls Try.prog 42 #[.int .u64 (u : Int)] w fun e w' => e = .returned (.int .i64 (unfold_ u)) ∧ w = w' := by
  by_cases h : u % 2 = 0
  · exact unfolded_even u w hu h
  · exact unfolded_odd u w hu h

set_option maxRecDepth 100000 in
theorem rnum_bad (w : World) (g : Nat) (h : Bad w g) :
    Calls Try.prog 35 #[.pointer (some ⟨g, 0, none⟩)] w fun e w' => e = .returned (.tuple #[.int .i64 0, .bool false]) ∧ w = w' := by
  go_enter Try.func35, Try.ntmps35
  go_wp2_with fail
  refine (rnat_bad w g h).mono ?_
  rintro e w' ⟨rfl, rfl⟩
  go_wp2
  go_ret2
  exact ⟨rfl, rfl⟩
set_option maxRecDepth 100000 in
theorem rnum_none (w : World) (lo g : Nat) (l : List UInt8) (h : Rd w lo g l) (hz : (rd l).2 = 0) :
    Calls Try.prog 35 #[.pointer (some ⟨g, 0, none⟩)] w fun e w' => e = .returned (.tuple #[.int .i64 0, .bool false]) ∧ Bad w' g ∧ w.grownBy w' (some g) := by
  have hn := rnat_none w lo g l h hz
  clear hz
  go_enter Try.func35, Try.ntmps35
  go_wp2_with fail
  refine hn.mono ?_
  rintro e w' ⟨rfl, hb, hg⟩
  go_wp2
  go_ret2
  exact ⟨rfl, hb, hg⟩
set_option maxRecDepth 100000 in
theorem rnum_some (w : World) (lo g : Nat) (l : List UInt8) (h : Rd w lo g l) (hz : 0 < (rd l).2) :
    Calls Try.prog 35 #[.pointer (some ⟨g, 0, none⟩)] w fun e w' => e = .returned (.tuple #[.int .i64 (unfold_ (rd l).1), .bool true]) ∧ Rd w' lo g (l.drop (rd l).2) ∧ w.grownBy w' (some g) := by
  have hn := rnat_some w lo g l h hz
  have hlt := rd_lt l
  generalize (rd l).2 = k at *
  generalize (rd l).1 = x at *
  go_enter Try.func35, Try.ntmps35
  go_wp2_with fail
  refine hn.mono ?_
  rintro e w' ⟨rfl, hb, hg⟩
  go_wp2_with fail
  refine (unfolded_c x w' hlt).mono ?_
  rintro e w2 ⟨rfl, rfl⟩
  go_wp2
  go_ret2
  exact ⟨rfl, hb, hg⟩

/-- What was written is read: a natural number, a number, a text. -/
theorem rnat_nat (w : World) (lo g m : Nat) (r : List UInt8) (h : Rd w lo g (nat m ++ r)) (hm : m < 18446744073709551616) :
    Calls Try.prog 41 #[.pointer (some ⟨g, 0, none⟩)] w fun e w' => e = .returned (.tuple #[.int .u64 (m : Int), .bool true]) ∧ Rd w' lo g r ∧ w.grownBy w' (some g) := by
  have h1 := rd_nat m r hm
  have := rnat_some w lo g _ h (by rw [h1]; exact nat_pos m)
  rw [h1] at this
  simpa using this
theorem rnum_nat (w : World) (lo g : Nat) (x : Int) (r : List UInt8) (h : Rd w lo g (nat (fold x) ++ r)) (h1 : -9223372036854775808 ≤ x) (h2 : x ≤ 9223372036854775807) :
    Calls Try.prog 35 #[.pointer (some ⟨g, 0, none⟩)] w fun e w' => e = .returned (.tuple #[.int .i64 x, .bool true]) ∧ Rd w' lo g r ∧ w.grownBy w' (some g) := by
  have h3 := rd_nat (fold x) r (fold_lt h1 h2)
  have := rnum_some w lo g _ h (by rw [h3]; exact nat_pos _)
  rw [h3] at this
  simpa [unfold_fold] using this
/-- x[k:] of a slice of bytes. -/
theorem Bts.cut {w : World} {lo hi n c k : Nat} {A : Option Addr} {l : List UInt8} (hr : Bts w lo hi A n l) (hk : k ≤ n) (hn : n ≤ c) : Bts w lo hi (if c = k then A else A.map (·.add k)) (n - k) (l.drop k) := by
  rcases Nat.eq_zero_or_pos (n - k) with h0 | h0
  · have : l.drop k = [] := List.drop_of_length_le (by rw [hr.len]; omega)
    rw [this, h0]
    exact Bts.nil _ _ _ _
  · obtain ⟨g', off, rfl, _⟩ := hr.2 (by omega)
    rw [if_neg (by omega)]
    simp only [Option.map_some, add_plain]
    exact hr.drop k
end Go.Proofs.Ytejmllpffocneaa
