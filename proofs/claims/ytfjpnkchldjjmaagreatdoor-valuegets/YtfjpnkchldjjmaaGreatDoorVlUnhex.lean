/- What value.fromHex returns: the bytes whose digits they are. -/
import Derived.Test.YtfjpnkchldjjmaaGreatDoorVlHex
import Derived.Lib.Bytealg
namespace Go.Proofs.YtfjpnkchldjjmaaGreatDoor
open Go.RowKit

def hexi (c : UInt8) : Int := Lib.indexByte [48, 49, 50, 51, 52, 53, 54, 55, 56, 57, 97, 98, 99, 100, 101, 102] c
theorem hexi_all : ∀ n : Fin 256, (∃ d : Fin 16, hexd d.val = UInt8.ofNat n.val ∧ hexi (UInt8.ofNat n.val) = (d.val : Int)) ∨ ((∀ d : Fin 16, hexd d.val ≠ UInt8.ofNat n.val) ∧ hexi (UInt8.ofNat n.val) = -1) := by decide +kernel
theorem hexi_cases (c : UInt8) : (∃ d, d < 16 ∧ hexd d = c ∧ hexi c = (d : Int)) ∨ ((∀ d, d < 16 → hexd d ≠ c) ∧ hexi c = -1) := by
  have h := hexi_all ⟨c.toNat, c.toNat_lt⟩
  have e : UInt8.ofNat c.toNat = c := by simp
  simp only [e] at h
  rcases h with ⟨d, h1, h2⟩ | ⟨h1, h2⟩
  · exact .inl ⟨d.val, d.isLt, h1, h2⟩
  · exact .inr ⟨fun d hd => h1 ⟨d, hd⟩, h2⟩
theorem ixb (c : UInt8) (w : World) : (callFunc 102 #[.string ⟨#[48, 49, 50, 51, 52, 53, 54, 55, 56, 57, 97, 98, 99, 100, 101, 102]⟩, .int .u8 (c.toNat : Int)]).run Tryz.prog w = .ok (.value (.int .i64 (hexi c))) w := by
  have h := Lib.run_indexByteString (P := Tryz.prog) ⟨#[48, 49, 50, 51, 52, 53, 54, 55, 56, 57, 97, 98, 99, 100, 101, 102]⟩ (c.toNat : Int) w
  rw [run_callFunc_extern Tryz.func102 (by kernel_rfl) (by kernel_rfl) (by kernel_rfl) (e := Extern.BytealgIndexByte.indexByte) (by kernel_rfl), h]
  have e : (c.toNat : Int).toNat.toUInt8 = c := by simp
  rw [e]
  rfl
theorem idx_c (c : UInt8) (w : World) : Calls Tryz.prog 71 #[.string ⟨#[48, 49, 50, 51, 52, 53, 54, 55, 56, 57, 97, 98, 99, 100, 101, 102]⟩, .int .u8 (c.toNat : Int)] w fun e w' => e = .returned (.int .i64 (hexi c)) ∧ w' = w := by
  have hx := ixb c
  have h1 : ∀ wx, Calls Tryz.prog 82 #[.string ⟨#[48, 49, 50, 51, 52, 53, 54, 55, 56, 57, 97, 98, 99, 100, 101, 102]⟩, .int .u8 (c.toNat : Int)] wx fun e w' => e = .returned (.int .i64 (hexi c)) ∧ w' = wx := by
    intro wx
    go_enter Tryz.func82, Tryz.ntmps82
    go_wp2
    go_ret
    exact ⟨rfl, rfl⟩
  have H1 := hid h1
  clear h1 hx
  go_enter Tryz.func71, Tryz.ntmps71
  go_wp2_with fail
  refine (H1.out _).mono ?_
  rintro e w' ⟨rfl, rfl⟩
  go_wp2
  go_ret
  exact ⟨rfl, rfl⟩
theorem hl_or {x y : Nat} (hx : x < 16) (hy : y < 16) : bits .or .i64 (16 * (x : Int)) (y : Int) = ((16 * x + y : Nat) : Int) := by
  have key : ∀ (a b : Fin 16), bits .or .i64 (16 * (a.val : Int)) (b.val : Int) = ((16 * a.val + b.val : Nat) : Int) := by decide +kernel
  exact key ⟨x, hx⟩ ⟨y, hy⟩
def FH (d : List UInt8) (w : World) (e : Ending) (w' : World) : Prop :=
  Below w.heap.size w w' ∧ ((∃ b, e = .returned (.tuple #[.string (str b), .bool true]) ∧ hex2 b = d ∧ b.length ≤ 64) ∨ (e = .returned (.tuple #[.string (str []), .bool false]) ∧ ∀ s, s.length ≤ 64 → hex2 s ≠ d))
theorem meas2 {j n : Nat} (h : 2 * j < n) : n - (intOf (.int .i64 (2 * (j : Int) + 2))).toNat < n - (intOf (.int .i64 (2 * (j : Int)))).toNat := by simp only [intOf]; omega

theorem wrap64_id {x : Int} (h1 : -9223372036854775808 ≤ x) (h2 : x ≤ 9223372036854775807) : wrap64 x = x := by unfold wrap64; omega
theorem fh_facts {d : List UInt8} {n m j : Nat} {z : Int} (hz : z = 2 * (j : Int)) (hj : j < m) (hm : n = 2 * m) (hn : n = d.length) (h64 : m ≤ 64) :
    decide (z < (n : Int)) = true ∧ wrap64 (z + 1) = z + 1 ∧ wrap64 (z + 2) = z + 2 ∧ z + 1 = ((2 * j + 1 : Nat) : Int) ∧ (∃ x, d[2 * j]? = some x) ∧ (∃ y, d[2 * j + 1]? = some y) := by
  have h1 : 2 * j + 1 < d.length := by omega
  refine ⟨by simp; omega, wrap64_id (by omega) (by omega), wrap64_id (by omega) (by omega), by omega, ⟨_, List.getElem?_eq_getElem (by omega)⟩, ⟨_, List.getElem?_eq_getElem h1⟩⟩
theorem fh_w {x : Nat} (h : x < 16) : wrap64 ((x : Int) * 16) = (x : Int) * 16 := wrap64_id (by omega) (by omega)
theorem fh_256 {v dx dy : Nat} (hv : v = 16 * dx + dy) (h1 : dx < 16) (h2 : dy < 16) : (v : Int) % 256 = (v : Int) := by omega
theorem fh_l1 {j : Nat} (h : j ≤ 64) : (j + 1) * 1 ≤ 140737488355328 := by omega
theorem fh_l2 {j : Nat} (h : j ≤ 64) : j + 1 ≤ maxLen := by unfold maxLen; omega
theorem fh_bs {b : List UInt8} {v : Nat} (h : v < 256) : bs (b ++ [UInt8.ofNat v]) = bs b ++ [Value.int .u8 (v : Int)] := by rw [bs_app]; simp [bs]; omega
theorem fh_meas {z : Int} {n j : Nat} (h : z = 2 * (j : Int)) (h2 : z + 2 ≤ (n : Int)) : n - (intOf (.int .i64 (z + 2))).toNat < n - (intOf (.int .i64 z)).toNat := by simp only [intOf]; omega
theorem fh_ge {p q : Int} {dx dy : Nat} (hp : p = (dx : Int)) (hq : q = (dy : Int)) : decide (p < 0) = false ∧ decide (q < 0) = false := by subst hp hq; simp
theorem fh_no1 {p q : Int} {dx : Nat} (hp : p = (dx : Int)) (hq : q = -1) : decide (p < 0) = false ∧ decide (q < 0) = true := by subst hp hq; simp
theorem fh_no2 {p : Int} (hp : p = -1) : decide (p < 0) = true := by subst hp; rfl
theorem fh_end {n m j : Nat} {z : Int} (hz : z = 2 * (j : Int)) (hj : j ≤ m) (hm : ¬ j < m) (hn : n = 2 * m) : decide (z < (n : Int)) = false := by simp; omega
theorem fh_fin {b d : List UInt8} {n m j : Nat} (h1 : hex2 b = d.take (2 * j)) (h2 : b.length = j) (hj : ¬ j < m) (hj2 : j ≤ m) (hm : n = 2 * m) (hn : n = d.length) (h64 : m ≤ 64) : hex2 b = d ∧ b.length ≤ 64 :=
  ⟨by rw [h1, List.take_of_length_le (by omega)], by omega⟩

set_option maxRecDepth 20000 in
set_option maxHeartbeats 2000000 in
theorem fromHex_c (d : List UInt8) (hlim : d.length ≤ 281474976710656) (w : World) :
    Calls Tryz.prog 57 #[.string (str d)] w (FH d w) := by
  have hz2 : (str d).size = d.length := str_size d
  obtain ⟨n, hn⟩ : ∃ n, n = d.length := ⟨_, rfl⟩
  rw [← hn] at hz2
  by_cases h1 : n % 2 = 0
  · by_cases h2 : n ≤ 128
    · have t1 : (Int.tmod (n : Int) 2 != 0) = false := by rw [Int.tmod_eq_emod_of_nonneg (by omega)]; simp; omega
      have t1' : ((n : Int) % 2 != 0) = false := by simp; omega
      have t2 : decide (128 < (n : Int)) = false := by simp; omega
      have t2' : decide (128 < n) = false := by simp; omega
      obtain ⟨m, hm⟩ : ∃ m, n = 2 * m := ⟨n / 2, by omega⟩
      have e3 : (n : Int) / 2 = (m : Int) := by omega
      have e4 : Int.tdiv (n : Int) 2 = (m : Int) := by rw [Int.tdiv_eq_ediv_of_nonneg (by omega)]; exact e3
      have hm64 : m ≤ 64 := by omega
      have HM := hid (And.intro hm hn)
      have HE : Hid (∀ j : Nat, j < m → (2 * (j : Int)) < (n : Int)) := hid (fun j hj => by omega)
      clear hlim h1 h2 hm hn
      go_enter Tryz.func57, Tryz.ntmps57
      go_wp2_with (at_make; refine wpList_make_new _ rfl _ _ 22 rfl 5 (.int .u8 0) 1 Tryz.underlying22 Tryz.infoU8 rfl _ _ 0 m rfl rfl rfl rfl (by omega) (by omega) (by omega) ?_)
      intro w1 hblk hgr hlt
      have hb1 : Below w.heap.size w w1 := grown_below hgr (Nat.le_refl _) (fun k h => by cases h)
      have HO := hid (own_made hblk.out (by unfold maxLen; omega))
      clear hblk hgr hlt
      go_wp2_with fail
      go_loopw [5, 4] (fun iv o wr => ∃ (z : Int) (j c : Nat) (A : Option Addr) (b : List UInt8), iv = .int .i64 z ∧ o = .slice A j c ∧ Below w.heap.size w wr ∧ Hid (wr.ownsRow w.heap.size 5 1 (.slice A j c) j (bs b)) ∧ Hid (z = 2 * (j : Int) ∧ j ≤ m ∧ hex2 b = d.take (2 * j) ∧ b.length = j)) (fun iv _ _ => n - (intOf iv).toNat)
      case atStart => exact ⟨0, 0, _, _, [], rfl, rfl, hb1, HO, hid ⟨rfl, by omega, by simp [hex2], rfl⟩⟩
      case round =>
        obtain ⟨z, j, c, A, b, rfl, rfl, hbel, hown, hh⟩ := hrel
        by_cases hj : j < m
        · obtain ⟨dz, zw, w1', z2, hxx, hyy⟩ := fh_facts (d := d) (n := n) hh.out.1 hj HM.out.1 HM.out.2 hm64
          obtain ⟨x, hx⟩ := hxx
          obtain ⟨y, hy⟩ := hyy
          have ix : ∀ wx, (Instr.index 9 (.string (str d)) (.int .i64 z)).run Tryz.prog wx = .ok (.int .u8 (x.toNat : Int)) wx := fun wx => by rw [hh.out.1]; exact vstr_at d (2 * j) x hx .i64 wx
          have iy : ∀ wx, (Instr.index 9 (.string (str d)) (.int .i64 (z + 1))).run Tryz.prog wx = .ok (.int .u8 (y.toNat : Int)) wx := fun wx => by rw [z2]; exact vstr_at d (2 * j + 1) y hy .i64 wx
          obtain ⟨p, hp⟩ : ∃ p, p = hexi x := ⟨_, rfl⟩
          obtain ⟨q, hq⟩ : ∃ q, q = hexi y := ⟨_, rfl⟩
          have HX : Hid (∀ wx, Calls Tryz.prog 71 #[.string ⟨#[48, 49, 50, 51, 52, 53, 54, 55, 56, 57, 97, 98, 99, 100, 101, 102]⟩, .int .u8 (x.toNat : Int)] wx fun e w' => e = .returned (.int .i64 p) ∧ w' = wx) := hid (fun wx => by rw [hp]; exact idx_c x wx)
          have HY : Hid (∀ wx, Calls Tryz.prog 71 #[.string ⟨#[48, 49, 50, 51, 52, 53, 54, 55, 56, 57, 97, 98, 99, 100, 101, 102]⟩, .int .u8 (y.toNat : Int)] wx fun e w' => e = .returned (.int .i64 q) ∧ w' = wx) := hid (fun wx => by rw [hq]; exact idx_c y wx)
          have HPX := hid (hexi_cases x)
          have HPY := hid (hexi_cases y)
          rw [← hp] at HPX
          rw [← hq] at HPY
          have HGX := hid hx
          have HGY := hid hy
          clear hx hy hp hq z2
          rcases HPX.out with ⟨dx, hx16, hxe, hpe⟩ | ⟨hxn, hpe⟩
          · rcases HPY.out with ⟨dy, hy16, hye, hqe⟩ | ⟨hyn, hqe⟩
            · obtain ⟨a1, a2⟩ := fh_ge hpe hqe
              have HQ : Hid (hex2 (b ++ [UInt8.ofNat (16 * dx + dy)]) = d.take (2 * (j + 1)) ∧ (b ++ [UInt8.ofNat (16 * dx + dy)]).length = j + 1) := hid ⟨hex2_step hh.out.2.2.1 (by rw [hxe]; exact HGX.out) (by rw [hye]; exact HGY.out) hx16 hy16, by simp [hh.out.2.2.2]⟩
              obtain ⟨v, hv⟩ : ∃ v, v = 16 * dx + dy := ⟨_, rfl⟩
              have e5 : bits .or .i64 ((dx : Int) * 16) (dy : Int) = (v : Int) := by rw [hv, Int.mul_comm]; exact hl_or hx16 hy16
              have e6 := fh_256 hv hx16 hy16
              have e4 := fh_w hx16
              rw [← hv] at HQ
              have HV : Hid (v < 256) := hid (by omega)
              have HZ : Hid (z + 2 = 2 * ((j + 1 : Nat) : Int) ∧ j + 1 ≤ m ∧ z = 2 * (j : Int) ∧ z + 2 ≤ (n : Int)) := hid (by have := hh.out.1; have := HM.out.1; omega)
              have HJ := hid (Nat.le_trans (Nat.le_of_lt hj) hm64)
              clear HPX HPY HGX HGY hx16 hy16 hxe hye hh hj hv
              as_aux_lemma =>
              go_wp2_with fail
              go_quiet (first | (go_at_call 71; refine Calls.quiet_of_same (HX.out _)) | (go_at_call 71; refine Calls.quiet_of_same (HY.out _)))
              have hown1 : (wr.drewN nq).ownsRow w.heap.size 5 1 (.slice A j c) j (bs b) := hown.out
              have hbel1 := bdN nq hbel
              clear hown hbel HX HY
              generalize wr.drewN nq = W at *
              have hbs := hbel1.size
              go_wp2_with (at_builtin; refine wpList_app1 W rfl _ _ 22 _ rfl w.heap.size 5 (.int .u8 0) 1 Tryz.underlying22 Tryz.infoU8 rfl _ _ _ _ rfl hown1 _ rfl rfl (fh_l1 HJ.out) (fh_l2 HJ.out) hbs ?_)
              intro A2 c2 w2 hc2 hown2 _ hb2 hbs2
              have HO2 : Hid (w2.ownsRow w.heap.size 5 1 (.slice A2 (j + 1) c2) (j + 1) (bs (b ++ [UInt8.ofNat v]))) := hid (by rw [fh_bs HV.out]; first | exact hown2 | (rw [e4, e5, e6] at hown2; exact hown2))
              have HB2 := hbel1.trans hb2
              clear hown1 hown2 hbel1 hb2
              go_wp2
              try rw [w1']
              exact ⟨⟨z + 2, j + 1, c2, A2, b ++ [UInt8.ofNat v], rfl, rfl, HB2, HO2, hid ⟨HZ.out.1, HZ.out.2.1, HQ.out⟩⟩, fh_meas HZ.out.2.2.1 HZ.out.2.2.2⟩
            · obtain ⟨a1, a2⟩ := fh_no1 hpe hqe
              have HQ : Hid (∀ s, s.length ≤ 64 → hex2 s ≠ d) := hid (fun s _ e => by
                obtain ⟨t, ht, hte⟩ := hex2_all s y (by rw [e]; exact List.mem_of_getElem? HGY.out)
                exact hyn t ht hte.symm)
              clear HPX HPY HGX HGY hxe hyn hpe hqe
              go_wp2_with fail
              go_quiet (first | (go_at_call 71; refine Calls.quiet_of_same (HX.out _)) | (go_at_call 71; refine Calls.quiet_of_same (HY.out _)))
              go_wp2
              go_ret2
              exact ⟨bdN _ hbel, .inr ⟨rfl, HQ.out⟩⟩
          · have a1 := fh_no2 hpe
            have HQ : Hid (∀ s, s.length ≤ 64 → hex2 s ≠ d) := hid (fun s _ e => by
              obtain ⟨t, ht, hte⟩ := hex2_all s x (by rw [e]; exact List.mem_of_getElem? HGX.out)
              exact hxn t ht hte.symm)
            clear HPX HPY HGX HGY hxn hpe
            go_wp2_with fail
            go_quiet (first | (go_at_call 71; refine Calls.quiet_of_same (HX.out _)) | (go_at_call 71; refine Calls.quiet_of_same (HY.out _)))
            go_wp2
            go_ret2
            exact ⟨bdN _ hbel, .inr ⟨rfl, HQ.out⟩⟩
        · have dz := fh_end (n := n) hh.out.1 hh.out.2.1 hj HM.out.1
          have hb2 : Hid (hex2 b = d ∧ b.length ≤ 64) := hid (fh_fin hh.out.2.2.1 hh.out.2.2.2 hj hh.out.2.1 HM.out.1 HM.out.2 hm64)
          have hcv := run_str (P := Tryz.prog) (c := c) 22 9 5 Tryz.underlying22 Tryz.underlying5 Tryz.underlying9 (Bts.own hown.out)
          clear hh hown hj
          go_wp2
          go_ret2
          exact ⟨hbel, .inl ⟨b, rfl, hb2.out⟩⟩
    · have t1 : (Int.tmod (n : Int) 2 != 0) = false := by rw [Int.tmod_eq_emod_of_nonneg (by omega)]; simp; omega
      have t1' : ((n : Int) % 2 != 0) = false := by simp; omega
      have t2 : decide (128 < (n : Int)) = true := by simp; omega
      have t2' : decide (128 < n) = true := by simp; omega
      have HQ : Hid (∀ s, s.length ≤ 64 → hex2 s ≠ d) := hid (fun s hs e => by have := congrArg List.length e; rw [hex2_len] at this; omega)
      clear hlim h1 h2 hn
      go_enter Tryz.func57, Tryz.ntmps57
      go_wp2
      go_ret2
      exact ⟨Below.refl _ _, .inr ⟨rfl, HQ.out⟩⟩
  · have t1 : (Int.tmod (n : Int) 2 != 0) = true := by rw [Int.tmod_eq_emod_of_nonneg (by omega)]; simp; omega
    have t1' : ((n : Int) % 2 != 0) = true := by simp; omega
    have HQ : Hid (∀ s, s.length ≤ 64 → hex2 s ≠ d) := hid (fun s hs e => by have := congrArg List.length e; rw [hex2_len] at this; omega)
    clear hlim h1 hn
    go_enter Tryz.func57, Tryz.ntmps57
    go_wp2
    go_ret2
    exact ⟨Below.refl _ _, .inr ⟨rfl, HQ.out⟩⟩
end Go.Proofs.YtfjpnkchldjjmaaGreatDoor
