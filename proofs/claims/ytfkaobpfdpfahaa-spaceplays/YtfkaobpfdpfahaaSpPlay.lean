/- Scripts upon a map: what operations are, and what the law's play does. -/
import Derived.Test.YtfkaobpfdpfahaaSpFirst
namespace Go.Proofs.Ytfkaobpfdpfahaa
open Go.RowKit

theorem kmod0 (i : Int) (m : Nat) (hm : 0 < m) : ∃ k : Nat, k < m ∧ (IntKind.u64.wrap i).tmod (m : Int) = (k : Int) := by
  have h0 : 0 ≤ IntKind.u64.wrap i := by rw [IntKind.wrap_u64]; omega
  have h1 : (IntKind.u64.wrap i).tmod (m : Int) = (IntKind.u64.wrap i) % (m : Int) := Int.tmod_eq_emod_of_nonneg h0
  have h2 : 0 ≤ (IntKind.u64.wrap i) % (m : Int) := Int.emod_nonneg _ (by omega)
  have h3 : (IntKind.u64.wrap i) % (m : Int) < (m : Int) := Int.emod_lt_of_pos _ (by omega)
  exact ⟨((IntKind.u64.wrap i) % (m : Int)).toNat, by omega, by rw [h1]; omega⟩
/-- Which kind of an operation it is. -/
def kd (x : Int) : Nat := ((IntKind.u64.wrap x).tmod 3).toNat
theorem kd_eq (x : Int) : (IntKind.u64.wrap x).tmod 3 = (kd x : Int) ∧ kd x < 3 := by
  obtain ⟨k, h1, h2⟩ := kmod0 x 3 (by decide)
  rw [show ((3 : Nat) : Int) = 3 from rfl] at h2
  unfold kd
  rw [h2]
  simpa using h1
def Sp.act (s : Sp) (x : Int × Int) : Sp := if kd x.1 = 0 then s.take else if kd x.1 = 1 then s.mark x.2 else s.give x.2
def Sp.acts (s : Sp) (o : Nat → Int × Int) : Nat → Sp
  | 0 => s
  | j + 1 => (Sp.acts s o j).act (o j)
theorem Sp.act_len (s : Sp) (x : Int × Int) : (s.act x).T.length = s.T.length := by
  unfold Sp.act; split
  · exact s.take_len
  · split
    · exact s.mark_len _
    · exact s.give_len _
theorem Sp.act_r (s : Sp) (x : Int × Int) : (s.act x).r = s.r := by
  unfold Sp.act; split
  · exact s.take_r
  · split
    · exact s.mark_r _
    · exact s.give_r _
theorem Sp.acts_len (s : Sp) (o : Nat → Int × Int) : ∀ j, (s.acts o j).T.length = s.T.length
  | 0 => rfl
  | j + 1 => (Sp.act_len _ _).trans (Sp.acts_len s o j)
theorem Sp.acts_r (s : Sp) (o : Nat → Int × Int) : ∀ j, (s.acts o j).r = s.r
  | 0 => rfl
  | j + 1 => (Sp.act_r _ _).trans (Sp.acts_r s o j)

/-- The cells of an operation. -/
def oc (x : Int × Int) : List Value := [.int .i64 x.1, .int .i64 x.2]
theorem oc_one (x : Int × Int) : (oc x).toArray.all (·.oneCell') = true := all_oneCell_toArray (fun u hu => by
  simp only [oc, List.mem_cons, List.not_mem_nil, or_false] at hu
  rcases hu with rfl | rfl <;> rfl)
/-- A row of n operations at A, all in blocks below hi. -/
def OpsP (w : World) (hi : Nat) (A : Option Addr) (n : Nat) (o : Nat → Int × Int) : Prop := ∀ j, j < n → ∃ b off, A = some ⟨b, off, none⟩ ∧ b < hi ∧ w.rangeAt b (off + j * 2) (oc (o j))
theorem OpsP.below {w w' : World} {hi n : Nat} {A : Option Addr} {o : Nat → Int × Int} (h : OpsP w hi A n o) (hb : Below hi w w') : OpsP w' hi A n o := fun j hj => by
  obtain ⟨b, off, hA, hlt, hr⟩ := h j hj
  exact ⟨b, off, hA, hlt, rangeAt_keep hr (hb.block b hlt)⟩
/-- The variable of a round: an operation's cells in a block of their own. -/
structure VarP (w w1 : World) (o : Int × Int) : Prop where
  bel : Below w.heap.size w w1
  c0 : w1.cell? ⟨w.heap.size, 0, none⟩ = some (.int .i64 o.1)
  c1 : w1.cell? ⟨w.heap.size, 1, none⟩ = some (.int .i64 o.2)
  lt : w.heap.size < w1.heap.size
theorem z2 (w : World) : (w.alloc (.cells #[.int .i64 0, .int .i64 0] 32)).there w.heap.size 0 2 := by
  have hB := Blk.new w 32 #[.int .i64 0, .int .i64 0]
  refine fun j hj => ⟨?_, hB.frozen _⟩
  rw [hB.cell, Nat.zero_add, Array.getElem?_eq_getElem (by simpa using hj)]
  rfl
theorem VarP.of (w : World) (o : Int × Int) : VarP w ((w.alloc (.cells #[.int .i64 0, .int .i64 0] 32)).setCells w.heap.size 0 (oc o)) o := by
  have hr : ((w.alloc (.cells #[.int .i64 0, .int .i64 0] 32)).setCells w.heap.size 0 (oc o)).rangeAt w.heap.size 0 (oc o) := World.rangeAt_setCells_same _ _ _ _ (z2 w)
  have hg := grown_setCells w.heap.size (oc o) 0 (w.alloc (.cells #[.int .i64 0, .int .i64 0] 32))
  exact ⟨((Below.refl _ _).alloc (Nat.le_refl _) _).grown hg (by simp) (fun k hk => by injection hk with hk; omega), hr 0 _ rfl, hr 1 _ rfl, Nat.lt_of_lt_of_le (by simp) hg.size⟩
theorem Try.infoO : (Try.prog.info? 32).map (·.size) = some 2 := by kernel_rfl
theorem Try.undO : ∃ d, Try.prog.underlying 32 = some d ∧ d.isRow = true := ⟨_, Try.underlying32, rfl⟩

set_option maxRecDepth 20000 in
set_option maxHeartbeats 4000000 in
theorem play_c (w : World) (g k : Nat) (s : Sp) (h : Mp w g k s) (A : Option Addr) (n c : Nat) (o : Nat → Int × Int) (hops : OpsP w w.heap.size A n o) (hA : 0 < n → ∀ b, A.map (·.block) = some b → b ≠ k) (hn : n ≤ 9223372036854775807) :
    Calls Try.prog 19 #[.pointer (some ⟨g, 0, none⟩), .slice A n c] w fun e w' => e = .returned (.tuple #[]) ∧ MLeft w w' g k (s.acts o (min n 60)) := by
  have HOPS := hid hops
  have HA := hid hA
  have HN := hid hn
  have HS0 := hid (MLeft.same h)
  clear hops hA hn h
  go_enter Try.func19, Try.ntmps19
  go_wp2_with fail
  go_loopg [8] n (fun q iv wr => ∃ j : Nat, iv = .int .i64 (j : Int) ∧ Hid (q = n - j) ∧ Hid (j ≤ n) ∧ Hid (j ≤ 60) ∧ Hid (MLeft w wr g k (s.acts o j)))
  case atStart => exact ⟨0, rfl, hid (by omega), hid (Nat.zero_le _), hid (by decide), HS0⟩
  case round =>
    obtain ⟨j, rfl, hgk, hj, hj60, hM⟩ := hrel
    clear HS0
    rcases Nat.lt_or_ge j n with hlt | hge
    · have HLT := hid hlt
      obtain ⟨b, off, rfl, hbl, hR0⟩ := HOPS.out j hlt
      have HR := hid (rangeAt_keep hR0 (hM.out.at_ hbl (HA.out (by omega) b rfl)))
      obtain ⟨d, hd1, hd2⟩ := Try.undO
      have HD := hid (And.intro hd1 hd2)
      have HIN : Hid ((Try.prog.info? 32).map (·.size) = some (oc (o j)).length) := hid Try.infoO
      have HT : Hid ((wr.alloc (.cells #[.int .i64 0, .int .i64 0] 32)).there wr.heap.size 0 (oc (o j)).toArray.size) := hid (z2 wr)
      have HC := hid (oc_one (o j))
      have HV : Hid (VarP wr ((wr.alloc (.cells #[.int .i64 0, .int .i64 0] 32)).setCells wr.heap.size 0 (oc (o j))) (o j)) := hid (VarP.of wr (o j))
      have HX : Hid (s.acts o (j + 1) = (s.acts o j).act (o j)) := hid rfl
      have HMN : Hid (60 ≤ j → min n 60 = j) := hid (fun h => by have := hj60.out; omega)
      have j1 : (0 : Int) ≤ (j : Int) := by omega
      have j2 : (j : Int) < (n : Int) := by omega
      have j3 : decide ((j : Int) < (n : Int)) = true := by simpa using hlt
      have j4 : decide (j < n) = true := by simpa using hlt
      have wj : wrap64 ((j : Int) + 1) = ((j + 1 : Nat) : Int) := by have := HN.out; unfold wrap64; omega
      clear hR0 hd1 hd2 hbl
      generalize o j = x at *
      generalize oc x = E at *
      as_aux_lemma =>
      go_upto_region 3 with (first | (refine wpList_load_mid rfl 32 _ rfl b (off + j * 2) rfl E d HR.out HD.out.1 HD.out.2 HIN.out ?_) | (refine wpList_store_mid rfl 32 _ _ rfl _ _ E.toArray rfl rfl HT.out HIN.out HC.out ?_))
      simp only [Act.put]
      generalize (wr.alloc (.cells #[.int .i64 0, .int .i64 0] 32)).setCells wr.heap.size 0 E = w2 at *
      have x0 := HV.out.c0
      have x1 := HV.out.c1
      have HM2 : Hid (MLeft w w2 g k (s.acts o j)) := hid ⟨hM.out.1.bel HV.out.bel, hM.out.2.trans (Kp.ofBelow HV.out.bel)⟩
      clear HR HT HC HIN HD hM HV
      generalize wr.heap.size = v at *
      by_cases h60 : 60 ≤ j
      · have e1 : decide ((60 : Int) ≤ (j : Int)) = true := by simp; omega
        have HE := hid (HMN.out h60)
        clear h60
        go_wp2
        go_end0
        exact ⟨rfl, by rw [HE.out]; exact HM2.out⟩
      · have e1 : decide ((60 : Int) ≤ (j : Int)) = false := by simp; omega
        have HJ : Hid (j < 60) := hid (by omega)
        obtain ⟨hk1, hk2⟩ := kd_eq x.1
        have HKD : Hid (kd x.1 = 0 ∨ kd x.1 = 1 ∨ kd x.1 = 2) := hid (by omega)
        have HACT : Hid ((s.acts o j).act x = if kd x.1 = 0 then (s.acts o j).take else if kd x.1 = 1 then (s.acts o j).mark x.2 else (s.acts o j).give x.2) := hid rfl
        rw [HACT.out] at HX
        generalize s.acts o j = s1 at *
        generalize kd x.1 = q at *
        clear h60 hk2 HMN HACT
        rcases HKD.out with rfl | rfl | rfl
        · have hc := take_any w2 g k s1 HM2.out.1
          as_aux_lemma =>
          go_wp2_with fail
          refine hc.mono ?_
          rintro e w3 ⟨rfl, hL⟩
          have HL := hid hL
          clear hL hc
          go_wp2
          go_roundg (n - (j + 1))
          case measure => have := hgk.out; have := HLT.out; omega
          case rel => exact ⟨j + 1, congrArg (Value.int .i64) (by first | exact wj | omega | rfl), hid rfl, hid (by have := HLT.out; omega), hid (by have := HJ.out; omega), hid ⟨by rw [HX.out]; exact HL.out.1, HM2.out.2.trans HL.out.2⟩⟩
        · have hc := mark_any w2 g k s1 HM2.out.1 x.2
          as_aux_lemma =>
          go_wp2_with fail
          refine hc.mono ?_
          rintro e w3 ⟨rfl, hL⟩
          have HL := hid hL
          clear hL hc
          go_wp2
          go_roundg (n - (j + 1))
          case measure => have := hgk.out; have := HLT.out; omega
          case rel => exact ⟨j + 1, congrArg (Value.int .i64) (by first | exact wj | omega | rfl), hid rfl, hid (by have := HLT.out; omega), hid (by have := HJ.out; omega), hid ⟨by rw [HX.out]; exact HL.out.1, HM2.out.2.trans HL.out.2⟩⟩
        · have hc := give_any w2 g k s1 HM2.out.1 x.2
          as_aux_lemma =>
          go_wp2_with fail
          refine hc.mono ?_
          rintro e w3 ⟨rfl, hL⟩
          have HL := hid hL
          clear hL hc
          go_wp2
          go_roundg (n - (j + 1))
          case measure => have := hgk.out; have := HLT.out; omega
          case rel => exact ⟨j + 1, congrArg (Value.int .i64) (by first | exact wj | omega | rfl), hid rfl, hid (by have := HLT.out; omega), hid (by have := HJ.out; omega), hid ⟨by rw [HX.out]; exact HL.out.1, HM2.out.2.trans HL.out.2⟩⟩
    · have j3 : decide ((j : Int) < (n : Int)) = false := by simp; omega
      have j4 : decide (j < n) = false := by simp; omega
      have HE : Hid (min n 60 = j) := hid (by have := hj.out; have := hj60.out; omega)
      clear hge
      go_wp2
      go_end0
      exact ⟨rfl, by rw [HE.out]; exact hM.out⟩
end Go.Proofs.Ytfkaobpfdpfahaa
