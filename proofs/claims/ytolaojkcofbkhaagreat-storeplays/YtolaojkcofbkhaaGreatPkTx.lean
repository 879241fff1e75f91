import Derived.Test.YtolaojkcofbkhaaGreatPkW1
namespace Go.Proofs.YtolaojkcofbkhaaGreat
set_option maxRecDepth 100000
open Go.RowKit
theorem text_c (A : Option Addr) (n c : Nat) (s : ByteArray) (l : List UInt8) (w : World) (hr : Bts w 0 w.heap.size A n l) (hn : n ≤ 500000000) (hm : s.size ≤ 500000000) :
 Calls Tryz.prog 119 #[.slice A n c, .string s] w (Row w (l ++ nat s.size ++ s.data.toList)) := by
 go_enter Tryz.func119, Tryz.ntmps119
 go_wp2_with fail
 refine (copyOf_c A n c (10 + s.size) l w hr (by omega)).mono ?_
 rintro e w1 ⟨A1, c1, rfl, hc1, hown, hb1⟩
 go_wp2_with fail
 refine (addNatural_c A1 l.length c1 (bs l) w.heap.size s.size w1 hown hb1.size (by have := hr.len; omega) (by omega)).mono ?_
 rintro e w2 ⟨A2, c2, rfl, hown2, hb2⟩
 have hl10 := nat_len_u64 (n := s.size) (by omega)
 have hll := hr.len
 have hbs2 : w.heap.size ≤ w2.heap.size := Nat.le_trans hb1.size hb2.size
 clear hll
 go_wp2_with (at_builtin; refine wpList_appS _ rfl _ _ 51 9 rfl w.heap.size 5 Tryz.underlying51 Tryz.underlying9 Tryz.info5 _ _ _ _ rfl hown2 _ rfl ?hn hbs2 ?_)
 case hn => have := hr.len; omega
 intro A3 c3 w3 hc3 hown3 _ hb3 hbs3
 go_wp2
 go_ret
 have hlen : (l ++ nat s.size ++ s.data.toList).length = l.length + (nat s.size).length + s.size := by simp; omega
 refine ⟨A3, c3, by rw [hlen]; rfl, by rw [hlen]; exact hc3, ?_, (hb1.trans hb2).trans hb3⟩
 rw [hlen, bs_app, bs_app]
 simpa using hown3
end Go.Proofs.YtolaojkcofbkhaaGreat
