/- What bits.Unpack does, for whatever bytes, number and width. A set of numbers as a row of words of 64 bits, in plain words. No program, no memory. -/
import Derived.Test.YtnhgijlhnamolaaDoorPk14
import Derived.Test.YtnhgijlhnamolaaDoorPk08
namespace Go.Proofs.YtnhgijlhnamolaaDoor
set_option maxRecDepth 20000
open Go.RowKit
namespace Bc
theorem hasOne_no (A : Option Addr) (m c a : Nat) (ai : Int) (bs : List Int) (w : World) (hS : Wd.Sl w .u8 A m c bs) (hB : Bt.InR 8 bs) (hm : m ≤ 1000000) (ha : a ≤ 8 * m) (hai : ai = (a : Int)) (h : Bt.ofD 8 bs / 2 ^ a = 0) :
    Calls Tryd.prog 76 #[.slice A m c, .int .i64 ai] w fun e w' => e = .returned (.bool false) ∧ Below w.heap.size w w' := by
  subst hai
  have := hasOne_any A m c a bs w hS hB hm ha
  rwa [decide_eq_false (by simpa using h)] at this
theorem hasOne_yes (A : Option Addr) (m c a : Nat) (ai : Int) (bs : List Int) (w : World) (hS : Wd.Sl w .u8 A m c bs) (hB : Bt.InR 8 bs) (hm : m ≤ 1000000) (ha : a ≤ 8 * m) (hai : ai = (a : Int)) (h : Bt.ofD 8 bs / 2 ^ a ≠ 0) :
    Calls Tryd.prog 76 #[.slice A m c, .int .i64 ai] w fun e w' => e = .returned (.bool true) ∧ Below w.heap.size w w' := by
  subst hai
  have := hasOne_any A m c a bs w hS hB hm ha
  rwa [decide_eq_true h] at this

set_option maxHeartbeats 800000 in
theorem unpack_ok (A : Option Addr) (m c n wd : Nat) (bs : List Int) (w : World) (hS : Wd.Sl w .u8 A m c bs) (hB : Bt.InR 8 bs) (hm : m ≤ 1000000) (hwd : wd ≤ 62) (hn : n ≤ 4096) (hfit : m = (n * wd + 7) / 8) (hz : Bt.ofD 8 bs / 2 ^ (n * wd) = 0) :
    Calls Tryd.prog 59 #[.slice A m c, .int .i64 n, .int .i64 wd] w (Wd.Out2 w .i64 (Bt.toD wd n (Bt.ofD 8 bs)) 0) := by
  obtain ⟨i0, hi, hz0, hz1, hz2⟩ := info_parts info_int
  have hmf : ∀ (fn : Fn) (first cap : Array Value) (w : World), (Instr.makeFunc fn first cap).run Tryd.prog w = .ok (.func fn first cap) w := fun _ _ _ _ => rfl
  obtain ⟨p1, p2⟩ := prod_le n wd hn hwd
  have E2 := Lib.hid (mul_cast n wd)
  have hl := hS.len
  have Hl := Lib.hid hl
  have f1 : m ≤ (n * wd + 7) / 8 := by omega
  have f2 : (n * wd + 7) / 8 ≤ m := by omega
  have f3 : n * wd ≤ 8 * m := by omega
  have Hz := Lib.hid hz
  clear hl hfit hz
  go_enter Tryd.func59, Tryd.ntmps59
  go_wp2_with fail
  refine (isWidth_yes _ _ (by omega) (by omega)).mono ?_
  rintro e w' ⟨rfl, rfl⟩
  go_wp2_with fail
  refine (bytesFor_any n wd _ hn hwd).mono ?_
  rintro e w' ⟨rfl, rfl⟩
  go_wp2_with fail
  have hb1 : Below w.heap.size w (w.alloc (.cells #[.int .i64 wd] 3)) := (Below.refl _ _).alloc (Nat.le_refl _) _
  have hv1 := Wd.Var.new w 3 (.int .i64 wd)
  have hS1 := hS.below hb1
  refine (hasOne_no A m c (n * wd) _ bs _ hS1 hB hm f3 E2.out Hz.out).mono ?_
  rintro e w2 ⟨rfl, hb2⟩
  have hW2 : Below w.heap.size w w2 := hb1.trans (hb2.mono hb1.size)
  have hv2 : Wd.Var w2 w.heap.size 3 (.int .i64 wd) := by unfold Wd.Var; rw [hb2.block _ hv1.lt]; exact hv1
  have hlt2 := hv2.lt
  have c5 := hv2.cell
  have hrd := (hS.below hW2).rd
  clear hb1 hb2 hv1 hS1
  go_wp2_with (at_make; refine wpList_make_full _ rfl (.tmp 38) (.tmp 38) 45 rfl w2.heap.size 3 i0 _ 1 Tryd.underlying45 hi hz0 hz1 .i64 .i64 n n n rfl rfl rfl rfl (by rw [hz2]; omega) (by unfold maxLen; omega) (Nat.le_refl _) ?_; intro w3 hown hgrow; have hb3 := (Below.refl w2.heap.size w2).grown hgrow (Nat.le_refl _) (by simp); have c53 := (hb3.cell (p := ⟨w.heap.size, 0, none⟩) hlt2).trans c5; have hz3 := hb3.size; have hz4 : w.heap.size < w3.heap.size := (by omega); have hz5 : w.heap.size < w3.heap.size + 1 := (by omega))
  rw [Wd.made_zero] at hown
  have hR := (Wd.Row.of_own hown).1
  have hg3 := hR.lt
  have hv3 : Wd.Var w3 w.heap.size 3 (.int .i64 wd) := by unfold Wd.Var; rw [hb3.block _ hlt2]; exact hv2
  have hW3 : Below w.heap.size w w3 := hW2.trans (hb3.mono hW2.size)
  have Hr0 := Lib.hid (hS.rd)
  have hwsz := hW2.size
  clear hown hgrow hrd hS
  refine (passBits_int _ _ A m c w.heap.size 0 (n * wd) 0 (n * wd) bs (Bt.ofD 8 bs) (UnI w w.heap.size w2.heap.size w3.heap.size (w3.heap.size + 1) w.heap.size n wd (Bt.ofD 8 bs)) _ rfl E2.out Hl.out hm (by omega) hB (by simp) goes_unpack (fun k w' hI => Hr0.out.below hI.2.2.2.2)
    (fun bit hbit => un_takes w w.heap.size w2.heap.size w3.heap.size (w3.heap.size + 1) w.heap.size n wd _ _ bit hbit (by omega) hwd (by rw [Nat.mul_comm]; omega) (by omega) (by omega) (by omega) (by omega) (by omega) (by omega) (by omega)) ?_).mono ?_
  · refine ⟨?_, ?_, ?_, ?_, ?_⟩
    · rw [toD_zero]
      exact (hR.alloc _).alloc _
    · exact (Wd.Var.new _ _ _).alloc _
    · have := Wd.Var.new (w3.alloc (.cells #[.slice (some ⟨w2.heap.size, 0, none⟩) n n] 45)) 3 (.int .i64 0)
      simpa using this
    · exact (hv3.alloc _).alloc _
    · exact (hW3.alloc (by omega) _).alloc (by simp; omega) _
  rintro e w4 ⟨rfl, hI⟩
  have c9 := hI.2.1.cell
  have hBl := hI.2.2.2.2
  have hR4 := hI.1
  have hmod : Bt.ofD 8 bs % 2 ^ (n * wd) = Bt.ofD 8 bs := by
    have h1 := Int.emod_add_mul_ediv (Bt.ofD 8 bs) (2 ^ (n * wd))
    rw [Hz.out] at h1
    omega
  rw [hmod] at hR4
  clear hI hmod hv2 hv3 c5 c53 hR hb3 hW2 hW3 hlt2 hz3 hz4 hz5 hg3 hwsz
  go_wp2_with fail
  go_ret2
  exact ⟨_, n, n, rfl, hR4.sl n (by rw [Bt.toD_len]) (by unfold maxLen; omega), hBl⟩

set_option maxHeartbeats 400000 in
theorem unpack_arg (A : Option Addr) (m c : Nat) (n wd : Int) (w : World) (h : wd < 0 ∨ 62 < wd ∨ n < 0) :
    Calls Tryd.prog 59 #[.slice A m c, .int .i64 n, .int .i64 wd] w (Wd.Out2 w .i64 [] 1) := by
  have hb1 : Below w.heap.size w (w.alloc (.cells #[.int .i64 wd] 3)) := (Below.refl _ _).alloc (Nat.le_refl _) _
  by_cases hw : 0 ≤ wd ∧ wd ≤ 62
  · obtain ⟨w1, w2⟩ := hw
    have hn : n < 0 := by omega
    clear h
    go_enter Tryd.func59, Tryd.ntmps59
    go_wp2_with fail
    refine (isWidth_yes _ _ w1 w2).mono ?_
    rintro e w' ⟨rfl, rfl⟩
    go_wp2_with fail
    go_ret2
    exact Wd.Out2.err _ _ _ _ hb1
  · have hw' : wd < 0 ∨ 62 < wd := by omega
    have Hw := Lib.hid hw'
    clear hw hw' h
    go_enter Tryd.func59, Tryd.ntmps59
    go_wp2_with fail
    refine (isWidth_no _ _ Hw.out).mono ?_
    rintro e w' ⟨rfl, rfl⟩
    go_wp2_with fail
    go_ret2
    exact Wd.Out2.err _ _ _ _ hb1
theorem unpack_long (A : Option Addr) (m c : Nat) (n wd : Int) (w : World) (h1 : 0 ≤ wd) (h2 : wd ≤ 62) (h3 : 4096 < n) :
    Calls Tryd.prog 59 #[.slice A m c, .int .i64 n, .int .i64 wd] w (Wd.Out2 w .i64 [] 2) := by
  have hb1 : Below w.heap.size w (w.alloc (.cells #[.int .i64 wd] 3)) := (Below.refl _ _).alloc (Nat.le_refl _) _
  have h4 : 0 ≤ n := by omega
  go_enter Tryd.func59, Tryd.ntmps59
  go_wp2_with fail
  refine (isWidth_yes _ _ h1 h2).mono ?_
  rintro e w' ⟨rfl, rfl⟩
  go_wp2_with fail
  go_ret2
  exact Wd.Out2.err _ _ _ _ hb1
set_option maxHeartbeats 400000 in
theorem unpack_short (A : Option Addr) (m c n wd : Nat) (w : World) (hwd : wd ≤ 62) (hn : n ≤ 4096) (h : m < (n * wd + 7) / 8) :
    Calls Tryd.prog 59 #[.slice A m c, .int .i64 n, .int .i64 wd] w (Wd.Out2 w .i64 [] 6) := by
  have hb1 : Below w.heap.size w (w.alloc (.cells #[.int .i64 wd] 3)) := (Below.refl _ _).alloc (Nat.le_refl _) _
  obtain ⟨p1, p2⟩ := prod_le n wd hn hwd
  go_enter Tryd.func59, Tryd.ntmps59
  go_wp2_with fail
  refine (isWidth_yes _ _ (by omega) (by omega)).mono ?_
  rintro e w' ⟨rfl, rfl⟩
  go_wp2_with fail
  refine (bytesFor_any n wd _ hn hwd).mono ?_
  rintro e w' ⟨rfl, rfl⟩
  go_wp2_with fail
  go_ret2
  exact Wd.Out2.err _ _ _ _ hb1
set_option maxHeartbeats 400000 in
theorem unpack_much (A : Option Addr) (m c n wd : Nat) (w : World) (hwd : wd ≤ 62) (hn : n ≤ 4096) (h : (n * wd + 7) / 8 < m) :
    Calls Tryd.prog 59 #[.slice A m c, .int .i64 n, .int .i64 wd] w (Wd.Out2 w .i64 [] 7) := by
  have hb1 : Below w.heap.size w (w.alloc (.cells #[.int .i64 wd] 3)) := (Below.refl _ _).alloc (Nat.le_refl _) _
  obtain ⟨p1, p2⟩ := prod_le n wd hn hwd
  go_enter Tryd.func59, Tryd.ntmps59
  go_wp2_with fail
  refine (isWidth_yes _ _ (by omega) (by omega)).mono ?_
  rintro e w' ⟨rfl, rfl⟩
  go_wp2_with fail
  refine (bytesFor_any n wd _ hn hwd).mono ?_
  rintro e w' ⟨rfl, rfl⟩
  go_wp2_with fail
  go_ret2
  exact Wd.Out2.err _ _ _ _ hb1
set_option maxHeartbeats 400000 in
theorem unpack_pad (A : Option Addr) (m c n wd : Nat) (bs : List Int) (w : World) (hS : Wd.Sl w .u8 A m c bs) (hB : Bt.InR 8 bs) (hm : m ≤ 1000000) (hwd : wd ≤ 62) (hn : n ≤ 4096) (hfit : m = (n * wd + 7) / 8) (hz : Bt.ofD 8 bs / 2 ^ (n * wd) ≠ 0) :
    Calls Tryd.prog 59 #[.slice A m c, .int .i64 n, .int .i64 wd] w (Wd.Out2 w .i64 [] 7) := by
  obtain ⟨p1, p2⟩ := prod_le n wd hn hwd
  have E2 := Lib.hid (mul_cast n wd)
  have f1 : m ≤ (n * wd + 7) / 8 := by omega
  have f2 : (n * wd + 7) / 8 ≤ m := by omega
  have f3 : n * wd ≤ 8 * m := by omega
  have Hz := Lib.hid hz
  clear hfit hz
  go_enter Tryd.func59, Tryd.ntmps59
  go_wp2_with fail
  refine (isWidth_yes _ _ (by omega) (by omega)).mono ?_
  rintro e w' ⟨rfl, rfl⟩
  go_wp2_with fail
  refine (bytesFor_any n wd _ hn hwd).mono ?_
  rintro e w' ⟨rfl, rfl⟩
  go_wp2_with fail
  have hb1 : Below w.heap.size w (w.alloc (.cells #[.int .i64 wd] 3)) := (Below.refl _ _).alloc (Nat.le_refl _) _
  have hS1 := hS.below hb1
  refine (hasOne_yes A m c (n * wd) _ bs _ hS1 hB hm f3 E2.out Hz.out).mono ?_
  rintro e w2 ⟨rfl, hb2⟩
  have hW2 : Below w.heap.size w w2 := hb1.trans (hb2.mono hb1.size)
  clear hb1 hb2 hS1
  go_wp2_with fail
  go_ret2
  exact Wd.Out2.err _ _ _ _ hW2

theorem unpack_any (A : Option Addr) (m c : Nat) (n wd : Int) (bs : List Int) (w : World) (hS : Wd.Sl w .u8 A m c bs) (hB : Bt.InR 8 bs) (hm : m ≤ 1000000) :
    Calls Tryd.prog 59 #[.slice A m c, .int .i64 n, .int .i64 wd] w (Wd.Out2 w .i64 (unL bs n wd) (unE bs n wd)) := by
  have hl := hS.len
  by_cases h1 : wd < 0 ∨ 62 < wd ∨ n < 0
  · have e : unE bs n wd = 1 := if_pos h1
    rw [unL, e, if_neg (by omega)]
    exact unpack_arg A m c n wd w h1
  · by_cases h2 : 4096 < n
    · have e : unE bs n wd = 2 := by unfold unE; rw [if_neg h1, if_pos h2]
      rw [unL, e, if_neg (by omega)]
      exact unpack_long A m c n wd w (by omega) (by omega) h2
    · obtain ⟨N, rfl⟩ := Int.eq_ofNat_of_zero_le (show 0 ≤ n by omega)
      obtain ⟨W, rfl⟩ := Int.eq_ofNat_of_zero_le (show 0 ≤ wd by omega)
      by_cases h3 : bs.length < (N * W + 7) / 8
      · have e : unE bs N W = 6 := by unfold unE; rw [if_neg h1, if_neg h2]; exact if_pos h3
        rw [unL, e, if_neg (by omega)]
        exact unpack_short A m c N W w (by omega) (by omega) (by omega)
      · by_cases h4 : (N * W + 7) / 8 < bs.length
        · have e : unE bs N W = 7 := by unfold unE; rw [if_neg h1, if_neg h2, if_neg (show ¬ bs.length < ((N : Int).toNat * (W : Int).toNat + 7) / 8 from h3)]; exact if_pos (.inl h4)
          rw [unL, e, if_neg (by omega)]
          exact unpack_much A m c N W w (by omega) (by omega) (by omega)
        · by_cases h5 : Bt.ofD 8 bs / 2 ^ (N * W) = 0
          · have e : unE bs N W = 0 := by
              unfold unE
              rw [if_neg h1, if_neg h2, if_neg (show ¬ bs.length < ((N : Int).toNat * (W : Int).toNat + 7) / 8 from h3)]
              refine if_neg ?_
              rintro (q | q)
              · exact h4 q
              · exact q h5
            rw [unL, e, if_pos rfl]
            exact unpack_ok A m c N W bs w hS hB hm (by omega) (by omega) (by omega) h5
          · have e : unE bs N W = 7 := by unfold unE; rw [if_neg h1, if_neg h2, if_neg (show ¬ bs.length < ((N : Int).toNat * (W : Int).toNat + 7) / 8 from h3)]; exact if_pos (.inr h5)
            rw [unL, e, if_neg (by omega)]
            exact unpack_pad A m c N W bs w hS hB hm (by omega) (by omega) (by omega) h5
end Bc
end Go.Proofs.YtnhgijlhnamolaaDoor
namespace Go.Proofs.YtnhgijlhnamolaaDoor
set_option maxRecDepth 20000
namespace Bs
/-- Is the number there? -/
def bitAt (L : List Nat) (i : Nat) : Bool := (L.getD (i / 64) 0).testBit (i % 64)
/-- All that are there. -/
def lstW (L : List Nat) : List Int := ((List.range (64 * L.length)).filter (bitAt L)).map fun (k : Nat) => (k : Int)
theorem bitAt_out {L : List Nat} {i : Nat} (h : 64 * L.length ≤ i) : bitAt L i = false := by
  unfold bitAt
  rw [List.getD_eq_getElem?_getD, List.getElem?_eq_none (by omega)]
  simp
theorem mem_lstW (L : List Nat) (x : Int) : x ∈ lstW L ↔ 0 ≤ x ∧ bitAt L x.toNat = true := by
  unfold lstW
  rw [List.mem_map]
  constructor
  · rintro ⟨k, hk, rfl⟩
    rw [List.mem_filter] at hk
    exact ⟨by omega, by simpa using hk.2⟩
  · rintro ⟨h0, h1⟩
    refine ⟨x.toNat, ?_, by omega⟩
    rw [List.mem_filter, List.mem_range]
    refine ⟨?_, h1⟩
    by_cases q : x.toNat < 64 * L.length
    · exact q
    · rw [bitAt_out (by omega)] at h1
      cases h1
theorem lstW_ok {L : List Nat} (h : L.length ≤ 1024) : Ok (lstW L) := by
  refine ⟨?_, fun x hx => ?_⟩
  · unfold lstW
    rw [List.pairwise_map]
    exact List.Pairwise.imp (fun {a b} q => by omega) (List.Pairwise.filter _ List.pairwise_lt_range)
  · obtain ⟨h0, h1⟩ := (mem_lstW L x).1 hx
    have : x.toNat < 64 * L.length := by
      by_cases q : x.toNat < 64 * L.length
      · exact q
      · rw [bitAt_out (by omega)] at h1
        cases h1
    exact ⟨h0, by omega⟩
theorem lstW_nil : lstW [] = [] := rfl
section
variable {L M N : List Nat}
theorem lst_with {i : Nat} (hL : L.length ≤ 1024) (hM : M.length ≤ 1024) (hi : i < 65536) (h : ∀ n, bitAt M n = (bitAt L n || decide (n = i))) : lstW M = withL (lstW L) (i : Int) :=
  ok_ext (lstW_ok hM) (with_ok (lstW_ok hL) _) fun x => by
    rw [mem_with, mem_lstW, mem_lstW, h, Bool.or_eq_true, decide_eq_true_eq]
    constructor
    · rintro ⟨h0, q | q⟩
      · exact .inl ⟨h0, q⟩
      · exact .inr ⟨by omega, by omega, by omega⟩
    · rintro (⟨h0, q⟩ | ⟨q, _⟩)
      · exact ⟨h0, .inl q⟩
      · exact ⟨by omega, .inr (by omega)⟩
theorem lst_without {i : Nat} (hL : L.length ≤ 1024) (hM : M.length ≤ 1024) (h : ∀ n, bitAt M n = (bitAt L n && decide (n ≠ i))) : lstW M = withoutL (lstW L) (i : Int) :=
  ok_ext (lstW_ok hM) (without_ok (lstW_ok hL) _) fun x => by
    rw [mem_without, mem_lstW, mem_lstW, h, Bool.and_eq_true, decide_eq_true_eq]
    exact ⟨fun ⟨h0, q, p⟩ => ⟨⟨h0, q⟩, fun e => p (by omega)⟩, fun ⟨⟨h0, q⟩, p⟩ => ⟨h0, q, fun e => p (by omega)⟩⟩
theorem lst_and (hL : L.length ≤ 1024) (hM : M.length ≤ 1024) (h : ∀ n, bitAt M n = (bitAt L n && bitAt N n)) : lstW M = andL (lstW L) (lstW N) :=
  ok_ext (lstW_ok hM) (and_ok (lstW_ok hL) _) fun x => by
    rw [mem_and, mem_lstW, mem_lstW, mem_lstW, h, Bool.and_eq_true]
    exact ⟨fun ⟨h0, q, p⟩ => ⟨⟨h0, q⟩, h0, p⟩, fun ⟨⟨h0, q⟩, _, p⟩ => ⟨h0, q, p⟩⟩
theorem lst_or (hL : L.length ≤ 1024) (hN : N.length ≤ 1024) (hM : M.length ≤ 1024) (h : ∀ n, bitAt M n = (bitAt L n || bitAt N n)) : lstW M = orL (lstW L) (lstW N) :=
  ok_ext (lstW_ok hM) (or_ok (lstW_ok hL) _) fun x => by
    rw [mem_or (lstW_ok hN), mem_lstW, mem_lstW, mem_lstW, h, Bool.or_eq_true]
    exact ⟨fun ⟨h0, q⟩ => q.elim (fun p => .inl ⟨h0, p⟩) fun p => .inr ⟨h0, p⟩, fun q => q.elim (fun p => ⟨p.1, .inl p.2⟩) fun p => ⟨p.1, .inr p.2⟩⟩
theorem lst_upto {k : Int} (hM : M.length ≤ 1024) (h : ∀ n, bitAt M n = decide (n < cut k)) : lstW M = uptoL k :=
  ok_ext (lstW_ok hM) (upto_ok k) fun x => by
    rw [mem_upto, mem_lstW, h, decide_eq_true_eq]
    unfold cut
    omega
theorem lst_not {k : Int} (hM : M.length ≤ 1024) (h : ∀ n, bitAt M n = (decide (n < cut k) && !bitAt L n)) : lstW M = notL (lstW L) k :=
  ok_ext (lstW_ok hM) (not_ok _ k) fun x => by
    rw [mem_not, mem_lstW, mem_lstW, h, Bool.and_eq_true, decide_eq_true_eq]
    unfold cut
    constructor
    · rintro ⟨h0, q, p⟩
      exact ⟨by omega, fun r => by rw [r.2] at p; cases p⟩
    · rintro ⟨q, p⟩
      refine ⟨q.1, by omega, ?_⟩
      cases e : bitAt L x.toNat
      · rfl
      · exact absurd ⟨q.1, e⟩ p
/-- A word turned. -/
theorem getD_set (L : List Nat) (k n v : Nat) (hk : k < L.length) : (L.set k v).getD n 0 = if n = k then v else L.getD n 0 := by
  rw [List.getD_eq_getElem?_getD, List.getElem?_set, List.getD_eq_getElem?_getD]
  by_cases e : k = n
  · rw [if_pos e, if_pos e.symm, if_pos hk]
    rfl
  · rw [if_neg e, if_neg fun q => e q.symm]
theorem bit_or {k j : Nat} (hk : k < L.length) (hj : j < 64) (n : Nat) : bitAt (L.set k (L.getD k 0 ||| 2 ^ j)) n = (bitAt L n || decide (n = 64 * k + j)) := by
  unfold bitAt
  rw [getD_set L k _ _ hk]
  by_cases e : n / 64 = k
  · rw [if_pos e, Nat.testBit_or, Nat.testBit_two_pow, e]
    congr 1
    exact decide_eq_decide.2 (by omega)
  · rw [if_neg e, decide_eq_false (by omega), Bool.or_false]
theorem bit_not {k j : Nat} (hk : k < L.length) (hj : j < 64) (n : Nat) : bitAt (L.set k (L.getD k 0 &&& (18446744073709551615 - 2 ^ j))) n = (bitAt L n && decide (n ≠ 64 * k + j)) := by
  unfold bitAt
  rw [getD_set L k _ _ hk]
  by_cases e : n / 64 = k
  · have hp : 2 ^ j < 2 ^ 64 := Nat.pow_lt_pow_right (by omega) hj
    rw [if_pos e, Nat.testBit_and, show 18446744073709551615 - 2 ^ j = 2 ^ 64 - (2 ^ j + 1) by omega, Nat.testBit_two_pow_sub_succ hp, Nat.testBit_two_pow, e, decide_eq_true (show n % 64 < 64 by omega), Bool.true_and]
    congr 1
    by_cases q : j = n % 64
    · rw [decide_eq_true q, decide_eq_false (by omega)]
      rfl
    · rw [decide_eq_false q, decide_eq_true (by omega)]
      rfl
  · rw [if_neg e, decide_eq_true (by omega), Bool.and_true]
theorem bit_and2 (h : ∀ k, M.getD k 0 = L.getD k 0 &&& N.getD k 0) (n : Nat) : bitAt M n = (bitAt L n && bitAt N n) := by
  unfold bitAt
  rw [h, Nat.testBit_and]
theorem bit_or2 (h : ∀ k, M.getD k 0 = L.getD k 0 ||| N.getD k 0) (n : Nat) : bitAt M n = (bitAt L n || bitAt N n) := by
  unfold bitAt
  rw [h, Nat.testBit_or]
theorem bit_not2 (h : ∀ k, M.getD k 0 = L.getD k 0 &&& (18446744073709551615 - N.getD k 0)) (hN : ∀ k, N.getD k 0 < 18446744073709551616) (n : Nat) : bitAt M n = (bitAt L n && !bitAt N n) := by
  unfold bitAt
  have := hN (n / 64)
  rw [h, Nat.testBit_and, show 18446744073709551615 - N.getD (n / 64) 0 = 2 ^ 64 - (N.getD (n / 64) 0 + 1) by omega, Nat.testBit_two_pow_sub_succ (by omega), decide_eq_true (show n % 64 < 64 by omega), Bool.true_and]
/-- The same numbers: the same words. -/
theorem lst_same (hL : L.length ≤ 1024) (hM : M.length ≤ 1024) (h1 : ∀ k, L.getD k 0 < 18446744073709551616) (h2 : ∀ k, M.getD k 0 < 18446744073709551616) : lstW L = lstW M ↔ ∀ k, L.getD k 0 = M.getD k 0 := by
  constructor
  · intro e k
    refine Nat.eq_of_testBit_eq fun j => ?_
    by_cases hj : j < 64
    · have ha : bitAt L (64 * k + j) = (L.getD k 0).testBit j := by unfold bitAt; rw [show (64 * k + j) / 64 = k by omega, show (64 * k + j) % 64 = j by omega]
      have hb : bitAt M (64 * k + j) = (M.getD k 0).testBit j := by unfold bitAt; rw [show (64 * k + j) / 64 = k by omega, show (64 * k + j) % 64 = j by omega]
      rw [← ha, ← hb, Bool.eq_iff_iff]
      have ml := mem_lstW L ((64 * k + j : Nat) : Int)
      have mm := mem_lstW M ((64 * k + j : Nat) : Int)
      rw [Int.toNat_natCast] at ml mm
      rw [e] at ml
      exact ⟨fun q => (mm.1 (ml.2 ⟨by omega, q⟩)).2, fun q => (ml.1 (mm.2 ⟨by omega, q⟩)).2⟩
    · have hp : 2 ^ 64 ≤ 2 ^ j := Nat.pow_le_pow_right (by omega) (by omega)
      rw [Nat.testBit_lt_two_pow (Nat.lt_of_lt_of_le (h1 k) hp), Nat.testBit_lt_two_pow (Nat.lt_of_lt_of_le (h2 k) hp)]
  · intro e
    refine ok_ext (lstW_ok hL) (lstW_ok hM) fun x => ?_
    rw [mem_lstW, mem_lstW]
    unfold bitAt
    rw [e]
/-- How many bits a word has. -/
def pop (w : Nat) : Nat := (List.range 64).countP fun j => w.testBit j
theorem lstW_len (L : List Nat) : (lstW L).length = (L.map pop).sum := by
  have key : ∀ n, n ≤ L.length → ((List.range (64 * n)).countP (bitAt L)) = ((L.take n).map pop).sum := by
    intro n
    induction n with
    | zero => intro _; rfl
    | succ n ih =>
      intro hn
      have e : List.range (64 * (n + 1)) = List.range (64 * n) ++ (List.range 64).map (64 * n + ·) := by rw [Nat.mul_succ, List.range_add]
      rw [e, List.countP_append, ih (by omega), List.take_add_one, List.getElem?_eq_getElem (by omega), List.map_append, List.sum_append, List.countP_map]
      congr 1
      simp only [Option.toList_some, List.map_cons, List.map_nil, List.sum_cons, List.sum_nil, Nat.add_zero]
      unfold pop
      refine List.countP_congr fun j hj => ?_
      rw [List.mem_range] at hj
      simp only [Function.comp_apply]
      unfold bitAt
      rw [show (64 * n + j) / 64 = n by omega, show (64 * n + j) % 64 = j by omega, List.getD_eq_getElem?_getD, List.getElem?_eq_getElem (by omega)]
      rfl
  have := key L.length (Nat.le_refl _)
  rw [List.take_length] at this
  rw [← this]
  unfold lstW
  rw [List.length_map, List.countP_eq_length_filter]
end
end Bs
end Go.Proofs.YtnhgijlhnamolaaDoor
