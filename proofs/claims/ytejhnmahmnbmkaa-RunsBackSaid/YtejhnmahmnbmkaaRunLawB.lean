/- The walk of the statement RunsBack of layer 3. -/
import Derived.Test.YtejhnmahmnbmkaaRunAwake
import Derived.Test.YtejhnmahmnbmkaaRunFlat
import Derived.Test.YtejhnmahmnbmkaaNumRead
namespace Go.Proofs.Ytejhnmahmnbmkaa
open Go.RowKit
namespace Lw
open Rc Nc

set_option maxRecDepth 100000 in
set_option maxHeartbeats 4000000 in
theorem runsBack_ok (A : Option Addr) (m c : Nat) (l : List Int) (B : Option Addr) (n d : Nat) (more : List Int) (w : World) (hS : Wd.Sl w .i64 A m c l) (hF : Rn.Fits l) (hT : Wd.Sl w .u8 B n d more) (hby : Nm.Byt more) (hm : m ≤ 600) (hn : n ≤ 600) :
    Calls Try.prog 5 #[.slice A m c, .slice B n d] w fun e w' => e = .returned (.bool true) ∧ Below w.heap.size w w' := by
  obtain ⟨i0, hi, hz0, hz1, hz2⟩ := info_parts info_u8
  have hl := hS.len
  have hT0 := hT.len
  have hcap := hS.cap
  have hcap2 := hT.cap
  have c1 := fun w hS => encode_ok A m c l w hS (by omega) hF
  have c2 := fun D k e w hS => decode_any D k e l more w hS hby (by omega) hF
  have c3 := fun w hS => runs_any A m c l w hS (by omega) hF
  have c4 := fun D k e w hS hk => flat_any D k e (Rn.runs l) w hS hk
  obtain ⟨f1, f2⟩ := Rn.flL_runs l (by omega)
  rw [f1, f2] at c4
  have c5 := fun w hS => deltas_any A m c l w hS (by omega)
  have c6 := fun D k e w hS hk => sums_any D k e (Rn.deltas l) w hS hk
  rw [Rn.sums_deltas l hF] at c6
  have c7 := fun w hS => sums_any A m c l w hS (by omega)
  have c8 := fun D k e w hS hk => deltas_any D k e (Rn.sums l) w hS hk
  rw [Rn.deltas_sums l hF] at c8
  have hle : (Rn.enc l).length ≤ 100000 := by have := Rn.block_le l (Rn.bi l 3); unfold Rn.enc; omega
  have hrl := Rn.runs_len l
  have hr1 : (Rn.runs l).length ≤ 100000 := by omega
  have hd1 : (Rn.deltas l).length ≤ 1000000 := by rw [Rn.deltas_len]; omega
  have hs1 : (Rn.sums l).length ≤ 1000000 := by rw [Rn.sums_len]; omega
  generalize Rn.enc l = bs at *
  generalize Rn.runs l = rs at *
  generalize Rn.deltas l = dl at *
  generalize Rn.sums l = sl at *
  have C1 := Lib.hid c1
  have C2 := Lib.hid c2
  have C3 := Lib.hid c3
  have C4 := Lib.hid c4
  have C5 := Lib.hid c5
  have C6 := Lib.hid c6
  have C7 := Lib.hid c7
  have C8 := Lib.hid c8
  have Hl := Lib.hid hl
  have HT0 := Lib.hid hT0
  have hml : more.length ≤ 600 := by omega
  clear c1 c2 c3 c4 c5 c6 c7 c8 f1 f2 hl hT0 hF hby hrl
  go_enter Try.func5, Try.ntmps5
  go_wp2_with fail
  refine (awake_any w).mono ?_
  rintro e w1 ⟨rfl, hB⟩
  have hS1 := hS.below hB
  have hT1 := hT.below hB
  clear hS hT
  go_wp2_with fail
  refine (C1.out w1 hS1).mono ?_
  rintro e w2 ⟨A2, n2, k2, rfl, hS2, hB2⟩
  have hW2 : Below w.heap.size w w2 := hB.trans (hB2.mono hB.size)
  have hS12 := hS1.below hB2
  have hT12 := hT1.below hB2
  have Hn2 := Lib.hid hS2.len
  have hn2 : n2 ≤ 100000 := by rw [hS2.len]; exact hle
  clear hB hS1 hT1 hB2 C1
  go_wp2_with (first | (at_builtin; refine Wd.wpList_app _ rfl (.const (.slice none 0 0)) (.tmp 37) 33 rfl w2.heap.size 5 i0 _ .u8 1 Try.underlying33 hi hz0 hz1 hz2 rfl (.slice none 0 0) [] rfl (World.ownsRow_nil _ _ _ _) w2.heap.size A2 n2 k2 bs rfl Hn2.out hS2.nil hS2.rd (by simp; omega) (by simp [maxLen]; omega) (Nat.le_refl _) ?_; intro v5 w5 hown5 hg5; have hb5 := (Below.refl w2.heap.size w2).grown hg5 (Nat.le_refl _) (by simp [Value.ownBlock]); have hz5 := hb5.size; have hT15 := hT12.below hb5) | (at_builtin; refine Wd.wpList_app _ rfl (.tmp 38) (.tmp 39) 33 rfl w2.heap.size 5 i0 _ .u8 1 Try.underlying33 hi hz0 hz1 hz2 rfl v5 ([] ++ bs) rfl hown5 w5.heap.size B n d more rfl HT0.out hT15.nil hT15.rd (by simp; omega) (by simp [maxLen]; omega) hz5 ?_; intro v6 w6 hown6 hg6; obtain ⟨A6, m6, k6, rfl, hS6⟩ := Wd.Sl.of_own hown6))
  have hb6 : Below w2.heap.size w2 w6 := hb5.grown hg6 hz5 (fun g hg => (hown5.lt g hg).1)
  have hW6 : Below w.heap.size w w6 := hW2.trans (hb6.mono hW2.size)
  have hS16 := hS12.below hb6
  rw [List.nil_append] at hS6
  clear hown5 hown6 hg5 hg6 hb5 hb6 hS12 hT12 hT15 hS2 hW2 hz5
  refine (C2.out A6 m6 k6 w6 hS6).mono ?_
  rintro e w7 ⟨A7, n7, k7, rfl, hS7, hB7⟩
  have hW7 : Below w.heap.size w w7 := hW6.trans (hB7.mono hW6.size)
  have hS17 := hS16.below hB7
  clear hS6 hS16 hB7 hW6 C2
  go_wp2_with fail
  refine (ints_yes A A7 m n7 c k7 l l w7 hS17 hS7 rfl).mono ?_
  rintro e w8 ⟨rfl, hB8⟩
  have hW8 : Below w.heap.size w w8 := hW7.trans (hB8.mono hW7.size)
  have hS18 := hS17.below hB8
  clear hS17 hS7 hB8 hW7
  go_wp2_with fail
  refine (C3.out w8 hS18).mono ?_
  rintro e w9 ⟨A9, n9, k9, rfl, hS9, hB9⟩
  have hW9 : Below w.heap.size w w9 := hW8.trans (hB9.mono hW8.size)
  have hS19 := hS18.below hB9
  have hn9 : n9 ≤ 100000 := by rw [hS9.len]; exact hr1
  clear hS18 hB9 hW8 C3
  go_wp2_with fail
  refine (C4.out A9 n9 k9 w9 hS9 hn9).mono ?_
  rintro e w10 ⟨A10, n10, k10, rfl, hS10, hB10⟩
  have hW10 : Below w.heap.size w w10 := hW9.trans (hB10.mono hW9.size)
  have hS110 := hS19.below hB10
  clear hS19 hB10 hW9 C4 hS9
  go_wp2_with fail
  refine (ints_yes A A10 m n10 c k10 l l w10 hS110 hS10 rfl).mono ?_
  rintro e w11 ⟨rfl, hB11⟩
  have hW11 : Below w.heap.size w w11 := hW10.trans (hB11.mono hW10.size)
  have hS111 := hS110.below hB11
  clear hS110 hS10 hB11 hW10
  go_wp2_with fail
  refine (C5.out w11 hS111).mono ?_
  rintro e w12 ⟨A12, n12, k12, rfl, hS12, hB12⟩
  have hW12 : Below w.heap.size w w12 := hW11.trans (hB12.mono hW11.size)
  have hS112 := hS111.below hB12
  have hn12 : n12 ≤ 1000000 := by rw [hS12.len]; exact hd1
  clear hS111 hB12 hW11 C5
  go_wp2_with fail
  refine (C6.out A12 n12 k12 w12 hS12 hn12).mono ?_
  rintro e w13 ⟨A13, n13, k13, rfl, hS13, hB13⟩
  have hW13 : Below w.heap.size w w13 := hW12.trans (hB13.mono hW12.size)
  have hS113 := hS112.below hB13
  clear hS112 hS12 hB13 hW12 C6
  go_wp2_with fail
  refine (ints_yes A A13 m n13 c k13 l l w13 hS113 hS13 rfl).mono ?_
  rintro e w14 ⟨rfl, hB14⟩
  have hW14 : Below w.heap.size w w14 := hW13.trans (hB14.mono hW13.size)
  have hS114 := hS113.below hB14
  clear hS113 hS13 hB14 hW13
  go_wp2_with fail
  refine (C7.out w14 hS114).mono ?_
  rintro e w15 ⟨A15, n15, k15, rfl, hS15, hB15⟩
  have hW15 : Below w.heap.size w w15 := hW14.trans (hB15.mono hW14.size)
  have hS115 := hS114.below hB15
  have hn15 : n15 ≤ 1000000 := by rw [hS15.len]; exact hs1
  clear hS114 hB15 hW14 C7
  go_wp2_with fail
  refine (C8.out A15 n15 k15 w15 hS15 hn15).mono ?_
  rintro e w16 ⟨A16, n16, k16, rfl, hS16, hB16⟩
  have hW16 : Below w.heap.size w w16 := hW15.trans (hB16.mono hW15.size)
  have hS116 := hS115.below hB16
  clear hS115 hS15 hB16 hW15 C8
  go_wp2_with fail
  refine (ints_yes A A16 m n16 c k16 l l w16 hS116 hS16 rfl).mono ?_
  rintro e w17 ⟨rfl, hB17⟩
  have hW17 : Below w.heap.size w w17 := hW16.trans (hB17.mono hW16.size)
  have hq : ((bs.length : Int) == (n2 : Int)) = true := by rw [Hn2.out]; simp
  clear hS116 hS16 hB17 hW16
  go_wp2_with fail
  go_ret
  exact ⟨rfl, hW17⟩

theorem runsBack_walk (A : Option Addr) (m c : Nat) (l : List Int) (B : Option Addr) (n d : Nat) (more : List Int) (w : World) (hS : Wd.Sl w .i64 A m c l) (hF : Wd.Fits .i64 l) (hT : Wd.Sl w .u8 B n d more) (hG : Wd.Fits .u8 more) :
    Calls Try.prog 5 #[.slice A m c, .slice B n d] w fun e w' => e = .returned (.bool true) ∧ Below w.heap.size w w' := by
  have hcap := hS.cap
  have hmax := hS.max
  have hcap2 := hT.cap
  have hmax2 := hT.max
  unfold maxLen at hmax hmax2
  rcases (show 600 < m ∨ (m ≤ 600 ∧ 600 < n) ∨ (m ≤ 600 ∧ n ≤ 600) by omega) with h | ⟨h, h2⟩ | ⟨h, h2⟩
  · go_enter Try.func5, Try.ntmps5
    go_wp2_with fail
    refine (awake_any w).mono ?_
    rintro e w1 ⟨rfl, hB⟩
    go_wp2_with fail
    go_ret
    exact ⟨rfl, hB⟩
  · go_enter Try.func5, Try.ntmps5
    go_wp2_with fail
    refine (awake_any w).mono ?_
    rintro e w1 ⟨rfl, hB⟩
    go_wp2_with fail
    go_ret
    exact ⟨rfl, hB⟩
  · exact runsBack_ok A m c l B n d more w hS (Wd.fits_of hF) hT (byt_of hG) h h2
end Lw
end Go.Proofs.Ytejhnmahmnbmkaa
