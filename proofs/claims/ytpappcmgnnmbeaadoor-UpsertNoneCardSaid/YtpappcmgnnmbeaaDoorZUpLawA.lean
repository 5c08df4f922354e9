/- The statement UpsertNone: its walk. -/
import Derived.Test.YtpappcmgnnmbeaaDoorPk27
import Derived.Test.YtpappcmgnnmbeaaDoorPk28
namespace Go.Proofs.YtpappcmgnnmbeaaDoor
set_option maxRecDepth 20000
open Go.RowKit Go.Maps
namespace Up
open Va (Vl)
theorem seal_nil (id : Int) (A : Option Addr) (n c : Nat) (w : World) : Calls Tryd.prog 27 #[.pointer none, .int .i64 id, .slice A n c] w fun e w' => e = .returned (.int .i64 1) ∧ w' = w := by
  go_enter Tryd.func27, Tryd.ntmps27
  go_wp2_with fail
  go_ret
  exact ⟨rfl, rfl⟩
end Up
namespace Lw
open Up
set_option maxHeartbeats 4000000 in
theorem upsertNone_walk (k i : Int) (s : ByteArray) (b : Bool) (id : Int) (w : World) (hT : Bi.Tab w) :
    Calls Tryd.prog 7 #[.agg #[.int .i64 k, .int .i64 i, .string s, .bool b], .int .i64 id] w fun e w' => e = .returned (.bool true) ∧ Below w.heap.size w w' := by
  have hb0 := (Below.refl w.heap.size w).alloc (Nat.le_refl _) (.cells #[.int .i64 k, .int .i64 i, .string s, .bool b] 27)
  have x0 : Vc.Vb (w.alloc (.cells #[.int .i64 k, .int .i64 i, .string s, .bool b] 27)) w.heap.size k i s b := Wd.Bx.new w _ _
  have Ca := Lib.hid (awake_any _ (hT.below hb0))
  have Cr := Lib.hid fun wx => row_any (k := 1) (n := 1) false (by decide) (by decide) wx
  have Cf := Lib.hid fun wx => find_nil ⟨k, i, s, b⟩ wx
  clear hT
  go_enter Tryd.func7, Tryd.ntmps7
  go_wp2_with fail
  generalize hwa : w.alloc (.cells #[.int .i64 k, .int .i64 i, .string s, .bool b] 27) = wa at *
  clear hwa
  refine (Ca.out).mono ?_
  rintro e w1 ⟨rfl, hb1⟩
  have x1 : Vc.Vb w1 w.heap.size k i s b := Wd.Bx.below x0 (Wd.Bx.lt x0) hb1
  have hb2 := hb0.trans (hb1.mono hb0.size)
  obtain ⟨⟨y0, y1, y2, y3⟩, -⟩ := Vc.four x1
  clear hb0 hb1
  go_wp2_with fail
  refine (Cf.out _).mono ?_
  rintro e w2 ⟨rfl, hb3⟩
  have hb4 := hb2.trans (hb3.mono hb2.size)
  have hb5 := hb4.alloc hb4.size (.cells #[.int .i64 0, .int .i64 0, .int .i64 0, .int .i64 0, .bool false] 47)
  rw [show wz = .agg #[.int .i64 0, .int .i64 0, .int .i64 0, .int .i64 0, .bool false] from rfl]
  clear hb2 hb3 y0 y1 y2 y3
  go_wp2_with fail
  refine (Cr.out _).mono ?_
  rintro e w3 ⟨R, rfl, -, hb6⟩
  have hb7 := hb5.trans (hb6.mono hb5.size)
  clear hb5 hb6
  go_wp2_with fail
  refine (add_nil R 3 3 0 0 0 _).mono ?_
  rintro e w4 ⟨rfl, hb8⟩
  have hb9 := hb7.trans (hb8.mono hb7.size)
  clear hb7 hb8
  go_wp2_with fail
  refine (keys_nil _).mono ?_
  rintro e w5 ⟨rfl, rfl⟩
  go_wp2_with fail
  refine (valid_nil id _).mono ?_
  rintro e w6 ⟨A, n, c, rfl, hst, hb10⟩
  have hb11 := hb9.trans (hb10.mono hb9.size)
  have Cc := Lib.hid (Bw.count_any A n c [] w6 hst)
  clear hb9 hb10 hst
  go_wp2_with fail
  refine (Cc.out).mono ?_
  rintro e w7 ⟨rfl, hb12⟩
  have hb13 := hb11.trans (hb12.mono hb11.size)
  clear hb11 hb12
  go_wp2_with fail
  refine (seal_nil id none 0 0 _).mono ?_
  rintro e w8 ⟨rfl, rfl⟩
  go_wp2_with fail
  go_ret
  exact ⟨rfl, hb13⟩
theorem upsertNone_says (k i : Int) (s : ByteArray) (b : Bool) (id : Int) (w : World) (_ : -9223372036854775808 ≤ id) (_ : id ≤ 9223372036854775807) (hL : laidMetH Tryd.prog Bw.ls w) :
    Calls Tryd.prog 7 #[.agg #[.int .i64 k, .int .i64 i, .string s, .bool b], .int .i64 id] w fun e w' => e = .returned (.bool true) ∧ Below w.heap.size w w' :=
  upsertNone_walk k i s b id w (Bw.tab_of_laid hL)
end Lw
end Go.Proofs.YtpappcmgnnmbeaaDoor
