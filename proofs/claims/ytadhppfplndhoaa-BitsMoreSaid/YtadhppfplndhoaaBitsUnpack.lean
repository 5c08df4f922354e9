/- What bits.Unpack does, for whatever bytes, number and width. -/
import Derived.Test.YtadhppfplndhoaaBitsAt
namespace Go.Proofs.Ytadhppfplndhoaa
open Go.RowKit
namespace Wd
/-- A call of w ended in w' with a slice of the numbers ys and an error's number, and nothing that was there has turned. -/
def Out2 (w : World) (k : IntKind) (ys : List Int) (er : Int) (e : Ending) (w' : World) : Prop :=
  ∃ A n c, e = .returned (.tuple #[.slice A n c, .int .i64 er]) ∧ Sl w' k A n c ys ∧ Below w.heap.size w w'
theorem Out2.err (w w' : World) (k : IntKind) (er : Int) (h : Below w.heap.size w w') : Out2 w k [] er (.returned (.tuple #[.slice none 0 0, .int .i64 er])) w' := ⟨none, 0, 0, rfl, Sl.none_ _ _, h⟩
end Wd
namespace Bc
theorem info_int : (Try.prog.info? 3).map (fun i => (i.zero, i.size, i.bytes)) = some (some (.int .i64 0), 1, 8) := by kernel_rfl
theorem info_u8 : (Try.prog.info? 5).map (fun i => (i.zero, i.size, i.bytes)) = some (some (.int .u8 0), 1, 1) := by kernel_rfl
theorem made_zero (k : IntKind) (n : Nat) : (madeCells (Value.int k 0).cells (n * 1)).toList = (List.replicate n (0 : Int)).map (Value.int k) := by
  refine List.ext_getElem (by simp [madeCells]) fun i h1 h2 => ?_
  simp [madeCells, Value.cells, Nat.mod_one]
theorem toD_zero (wd n : Nat) (V : Int) : Bt.toD wd n (V % 2 ^ 0) = List.replicate n 0 := by
  have : V % 2 ^ 0 = 0 := by simp
  rw [this]
  refine Bt.ext_getD (by simp [Bt.toD_len]) fun i hi => ?_
  rw [Bt.toD_len] at hi
  rw [Bt.toD_get _ _ _ _ hi]
  simp [Bt.dig, List.getD, hi]
theorem hasOne_no (A : Option Addr) (m c a : Nat) (ai : Int) (bs : List Int) (w : World) (hS : Wd.Sl w .u8 A m c bs) (hB : Bt.InR 8 bs) (hm : m ≤ 1000000) (ha : a ≤ 8 * m) (hai : ai = (a : Int)) (h : Bt.ofD 8 bs / 2 ^ a = 0) :
    Calls Try.prog 26 #[.slice A m c, .int .i64 ai] w fun e w' => e = .returned (.bool false) ∧ Below w.heap.size w w' := by
  subst hai
  have := hasOne_any A m c a bs w hS hB hm ha
  rwa [decide_eq_false (by simpa using h)] at this
theorem hasOne_yes (A : Option Addr) (m c a : Nat) (ai : Int) (bs : List Int) (w : World) (hS : Wd.Sl w .u8 A m c bs) (hB : Bt.InR 8 bs) (hm : m ≤ 1000000) (ha : a ≤ 8 * m) (hai : ai = (a : Int)) (h : Bt.ofD 8 bs / 2 ^ a ≠ 0) :
    Calls Try.prog 26 #[.slice A m c, .int .i64 ai] w fun e w' => e = .returned (.bool true) ∧ Below w.heap.size w w' := by
  subst hai
  have := hasOne_any A m c a bs w hS hB hm ha
  rwa [decide_eq_true h] at this

set_option maxHeartbeats 800000 in
theorem unpack_ok (A : Option Addr) (m c n wd : Nat) (bs : List Int) (w : World) (hS : Wd.Sl w .u8 A m c bs) (hB : Bt.InR 8 bs) (hm : m ≤ 1000000) (hwd : wd ≤ 62) (hn : n ≤ 4096) (hfit : m = (n * wd + 7) / 8) (hz : Bt.ofD 8 bs / 2 ^ (n * wd) = 0) :
    Calls Try.prog 15 #[.slice A m c, .int .i64 n, .int .i64 wd] w (Wd.Out2 w .i64 (Bt.toD wd n (Bt.ofD 8 bs)) 0) := by
  obtain ⟨i0, hi, hz0, hz1, hz2⟩ := info_parts info_int
  have hmf : ∀ (fn : Fn) (first cap : Array Value) (w : World), (Instr.makeFunc fn first cap).run Try.prog w = .ok (.func fn first cap) w := fun _ _ _ _ => rfl
  obtain ⟨p1, p2⟩ := prod_le n wd hn hwd
  have E2 := Lib.hid (mul_cast n wd)
  have hl := hS.len
  have Hl := Lib.hid hl
  have f1 : m ≤ (n * wd + 7) / 8 := by omega
  have f2 : (n * wd + 7) / 8 ≤ m := by omega
  have f3 : n * wd ≤ 8 * m := by omega
  have Hz := Lib.hid hz
  clear hl hfit hz
  go_enter Try.func15, Try.ntmps15
  go_wp2_with fail
  refine (isWidth_yes _ _ (by omega) (by omega)).mono ?_
  rintro e w' ⟨rfl, rfl⟩
  go_wp2_with fail
  refine (bytesFor_any n wd _ hn hwd).mono ?_
  rintro e w' ⟨rfl, rfl⟩
  go_wp2_with fail
  have hb1 : Below w.heap.size w (w.alloc (.cells #[.int .i64 wd] 3)) := (Below.refl _ _).alloc (Nat.le_refl _) _
  have hv1 := Wd.Var.new w 3 (.int .i64 wd)
  have hS1 := hS.below hb1
  refine (hasOne_no A m c (n * wd) _ bs _ hS1 hB hm f3 E2.out Hz.out).mono ?_
  rintro e w2 ⟨rfl, hb2⟩
  have hW2 : Below w.heap.size w w2 := hb1.trans (hb2.mono hb1.size)
  have hv2 : Wd.Var w2 w.heap.size 3 (.int .i64 wd) := by unfold Wd.Var; rw [hb2.block _ hv1.lt]; exact hv1
  have hlt2 := hv2.lt
  have c5 := hv2.cell
  have hrd := (hS.below hW2).rd
  clear hb1 hb2 hv1 hS1
  go_wp2_with (at_make; refine wpList_make_full _ rfl (.tmp 38) (.tmp 38) 22 rfl w2.heap.size 3 i0 _ 1 Try.underlying22 hi hz0 hz1 .i64 .i64 n n n rfl rfl rfl rfl (by rw [hz2]; omega) (by unfold maxLen; omega) (Nat.le_refl _) ?_; intro w3 hown hgrow; have hb3 := (Below.refl w2.heap.size w2).grown hgrow (Nat.le_refl _) (by simp); have c53 := (hb3.cell (p := ⟨w.heap.size, 0, none⟩) hlt2).trans c5; have hz3 := hb3.size; have hz4 : w.heap.size < w3.heap.size := (by omega); have hz5 : w.heap.size < w3.heap.size + 1 := (by omega))
  rw [made_zero] at hown
  have hR := (Wd.Row.of_own hown).1
  have hg3 := hR.lt
  have hv3 : Wd.Var w3 w.heap.size 3 (.int .i64 wd) := by unfold Wd.Var; rw [hb3.block _ hlt2]; exact hv2
  have hW3 : Below w.heap.size w w3 := hW2.trans (hb3.mono hW2.size)
  have Hr0 := Lib.hid (hS.rd)
  have hwsz := hW2.size
  clear hown hgrow hrd hS
  refine (passBits_int _ _ A m c w.heap.size 0 (n * wd) 0 (n * wd) bs (Bt.ofD 8 bs) (UnI w w.heap.size w2.heap.size w3.heap.size (w3.heap.size + 1) w.heap.size n wd (Bt.ofD 8 bs)) _ rfl E2.out Hl.out hm (by omega) hB (by simp) goes_unpack (fun k w' hI => Hr0.out.below hI.2.2.2.2)
    (fun bit hbit => un_takes w w.heap.size w2.heap.size w3.heap.size (w3.heap.size + 1) w.heap.size n wd _ _ bit hbit (by omega) hwd (by rw [Nat.mul_comm]; omega) (by omega) (by omega) (by omega) (by omega) (by omega) (by omega) (by omega)) ?_).mono ?_
  · refine ⟨?_, ?_, ?_, ?_, ?_⟩
    · rw [toD_zero]
      exact (hR.alloc _).alloc _
    · exact (Wd.Var.new _ _ _).alloc _
    · have := Wd.Var.new (w3.alloc (.cells #[.slice (some ⟨w2.heap.size, 0, none⟩) n n] 22)) 3 (.int .i64 0)
      simpa using this
    · exact (hv3.alloc _).alloc _
    · exact (hW3.alloc (by omega) _).alloc (by simp; omega) _
  rintro e w4 ⟨rfl, hI⟩
  have c9 := hI.2.1.cell
  have hBl := hI.2.2.2.2
  have hR4 := hI.1
  have hmod : Bt.ofD 8 bs % 2 ^ (n * wd) = Bt.ofD 8 bs := by
    have h1 := Int.emod_add_mul_ediv (Bt.ofD 8 bs) (2 ^ (n * wd))
    rw [Hz.out] at h1
    omega
  rw [hmod] at hR4
  clear hI hmod hv2 hv3 c5 c53 hR hb3 hW2 hW3 hlt2 hz3 hz4 hz5 hg3 hwsz
  go_wp2_with fail
  go_ret2
  exact ⟨_, n, n, rfl, hR4.sl n (by rw [Bt.toD_len]) (by unfold maxLen; omega), hBl⟩

/-- The error's number, and the numbers, that Unpack answers. -/
def unE (bs : List Int) (n wd : Int) : Int :=
  if wd < 0 ∨ 62 < wd ∨ n < 0 then 1 else if 4096 < n then 2 else if bs.length < (n.toNat * wd.toNat + 7) / 8 then 6
  else if (n.toNat * wd.toNat + 7) / 8 < bs.length ∨ Bt.ofD 8 bs / 2 ^ (n.toNat * wd.toNat) ≠ 0 then 7 else 0
def unL (bs : List Int) (n wd : Int) : List Int := if unE bs n wd = 0 then Bt.toD wd.toNat n.toNat (Bt.ofD 8 bs) else []

set_option maxHeartbeats 400000 in
theorem unpack_arg (A : Option Addr) (m c : Nat) (n wd : Int) (w : World) (h : wd < 0 ∨ 62 < wd ∨ n < 0) :
    Calls Try.prog 15 #[.slice A m c, .int .i64 n, .int .i64 wd] w (Wd.Out2 w .i64 [] 1) := by
  have hb1 : Below w.heap.size w (w.alloc (.cells #[.int .i64 wd] 3)) := (Below.refl _ _).alloc (Nat.le_refl _) _
  by_cases hw : 0 ≤ wd ∧ wd ≤ 62
  · obtain ⟨w1, w2⟩ := hw
    have hn : n < 0 := by omega
    clear h
    go_enter Try.func15, Try.ntmps15
    go_wp2_with fail
    refine (isWidth_yes _ _ w1 w2).mono ?_
    rintro e w' ⟨rfl, rfl⟩
    go_wp2_with fail
    go_ret2
    exact Wd.Out2.err _ _ _ _ hb1
  · have hw' : wd < 0 ∨ 62 < wd := by omega
    have Hw := Lib.hid hw'
    clear hw hw' h
    go_enter Try.func15, Try.ntmps15
    go_wp2_with fail
    refine (isWidth_no _ _ Hw.out).mono ?_
    rintro e w' ⟨rfl, rfl⟩
    go_wp2_with fail
    go_ret2
    exact Wd.Out2.err _ _ _ _ hb1
theorem unpack_long (A : Option Addr) (m c : Nat) (n wd : Int) (w : World) (h1 : 0 ≤ wd) (h2 : wd ≤ 62) (h3 : 4096 < n) :
    Calls Try.prog 15 #[.slice A m c, .int .i64 n, .int .i64 wd] w (Wd.Out2 w .i64 [] 2) := by
  have hb1 : Below w.heap.size w (w.alloc (.cells #[.int .i64 wd] 3)) := (Below.refl _ _).alloc (Nat.le_refl _) _
  have h4 : 0 ≤ n := by omega
  go_enter Try.func15, Try.ntmps15
  go_wp2_with fail
  refine (isWidth_yes _ _ h1 h2).mono ?_
  rintro e w' ⟨rfl, rfl⟩
  go_wp2_with fail
  go_ret2
  exact Wd.Out2.err _ _ _ _ hb1
set_option maxHeartbeats 400000 in
theorem unpack_short (A : Option Addr) (m c n wd : Nat) (w : World) (hwd : wd ≤ 62) (hn : n ≤ 4096) (h : m < (n * wd + 7) / 8) :
    Calls Try.prog 15 #[.slice A m c, .int .i64 n, .int .i64 wd] w (Wd.Out2 w .i64 [] 6) := by
  have hb1 : Below w.heap.size w (w.alloc (.cells #[.int .i64 wd] 3)) := (Below.refl _ _).alloc (Nat.le_refl _) _
  obtain ⟨p1, p2⟩ := prod_le n wd hn hwd
  go_enter Try.func15, Try.ntmps15
  go_wp2_with fail
  refine (isWidth_yes _ _ (by omega) (by omega)).mono ?_
  rintro e w' ⟨rfl, rfl⟩
  go_wp2_with fail
  refine (bytesFor_any n wd _ hn hwd).mono ?_
  rintro e w' ⟨rfl, rfl⟩
  go_wp2_with fail
  go_ret2
  exact Wd.Out2.err _ _ _ _ hb1
set_option maxHeartbeats 400000 in
theorem unpack_much (A : Option Addr) (m c n wd : Nat) (w : World) (hwd : wd ≤ 62) (hn : n ≤ 4096) (h : (n * wd + 7) / 8 < m) :
    Calls Try.prog 15 #[.slice A m c, .int .i64 n, .int .i64 wd] w (Wd.Out2 w .i64 [] 7) := by
  have hb1 : Below w.heap.size w (w.alloc (.cells #[.int .i64 wd] 3)) := (Below.refl _ _).alloc (Nat.le_refl _) _
  obtain ⟨p1, p2⟩ := prod_le n wd hn hwd
  go_enter Try.func15, Try.ntmps15
  go_wp2_with fail
  refine (isWidth_yes _ _ (by omega) (by omega)).mono ?_
  rintro e w' ⟨rfl, rfl⟩
  go_wp2_with fail
  refine (bytesFor_any n wd _ hn hwd).mono ?_
  rintro e w' ⟨rfl, rfl⟩
  go_wp2_with fail
  go_ret2
  exact Wd.Out2.err _ _ _ _ hb1
set_option maxHeartbeats 400000 in
theorem unpack_pad (A : Option Addr) (m c n wd : Nat) (bs : List Int) (w : World) (hS : Wd.Sl w .u8 A m c bs) (hB : Bt.InR 8 bs) (hm : m ≤ 1000000) (hwd : wd ≤ 62) (hn : n ≤ 4096) (hfit : m = (n * wd + 7) / 8) (hz : Bt.ofD 8 bs / 2 ^ (n * wd) ≠ 0) :
    Calls Try.prog 15 #[.slice A m c, .int .i64 n, .int .i64 wd] w (Wd.Out2 w .i64 [] 7) := by
  obtain ⟨p1, p2⟩ := prod_le n wd hn hwd
  have E2 := Lib.hid (mul_cast n wd)
  have f1 : m ≤ (n * wd + 7) / 8 := by omega
  have f2 : (n * wd + 7) / 8 ≤ m := by omega
  have f3 : n * wd ≤ 8 * m := by omega
  have Hz := Lib.hid hz
  clear hfit hz
  go_enter Try.func15, Try.ntmps15
  go_wp2_with fail
  refine (isWidth_yes _ _ (by omega) (by omega)).mono ?_
  rintro e w' ⟨rfl, rfl⟩
  go_wp2_with fail
  refine (bytesFor_any n wd _ hn hwd).mono ?_
  rintro e w' ⟨rfl, rfl⟩
  go_wp2_with fail
  have hb1 : Below w.heap.size w (w.alloc (.cells #[.int .i64 wd] 3)) := (Below.refl _ _).alloc (Nat.le_refl _) _
  have hS1 := hS.below hb1
  refine (hasOne_yes A m c (n * wd) _ bs _ hS1 hB hm f3 E2.out Hz.out).mono ?_
  rintro e w2 ⟨rfl, hb2⟩
  have hW2 : Below w.heap.size w w2 := hb1.trans (hb2.mono hb1.size)
  clear hb1 hb2 hS1
  go_wp2_with fail
  go_ret2
  exact Wd.Out2.err _ _ _ _ hW2

theorem unpack_any (A : Option Addr) (m c : Nat) (n wd : Int) (bs : List Int) (w : World) (hS : Wd.Sl w .u8 A m c bs) (hB : Bt.InR 8 bs) (hm : m ≤ 1000000) :
    Calls Try.prog 15 #[.slice A m c, .int .i64 n, .int .i64 wd] w (Wd.Out2 w .i64 (unL bs n wd) (unE bs n wd)) := by
  have hl := hS.len
  by_cases h1 : wd < 0 ∨ 62 < wd ∨ n < 0
  · have e : unE bs n wd = 1 := if_pos h1
    rw [unL, e, if_neg (by omega)]
    exact unpack_arg A m c n wd w h1
  · by_cases h2 : 4096 < n
    · have e : unE bs n wd = 2 := by unfold unE; rw [if_neg h1, if_pos h2]
      rw [unL, e, if_neg (by omega)]
      exact unpack_long A m c n wd w (by omega) (by omega) h2
    · obtain ⟨N, rfl⟩ := Int.eq_ofNat_of_zero_le (show 0 ≤ n by omega)
      obtain ⟨W, rfl⟩ := Int.eq_ofNat_of_zero_le (show 0 ≤ wd by omega)
      by_cases h3 : bs.length < (N * W + 7) / 8
      · have e : unE bs N W = 6 := by unfold unE; rw [if_neg h1, if_neg h2]; exact if_pos h3
        rw [unL, e, if_neg (by omega)]
        exact unpack_short A m c N W w (by omega) (by omega) (by omega)
      · by_cases h4 : (N * W + 7) / 8 < bs.length
        · have e : unE bs N W = 7 := by unfold unE; rw [if_neg h1, if_neg h2, if_neg (show ¬ bs.length < ((N : Int).toNat * (W : Int).toNat + 7) / 8 from h3)]; exact if_pos (.inl h4)
          rw [unL, e, if_neg (by omega)]
          exact unpack_much A m c N W w (by omega) (by omega) (by omega)
        · by_cases h5 : Bt.ofD 8 bs / 2 ^ (N * W) = 0
          · have e : unE bs N W = 0 := by
              unfold unE
              rw [if_neg h1, if_neg h2, if_neg (show ¬ bs.length < ((N : Int).toNat * (W : Int).toNat + 7) / 8 from h3)]
              refine if_neg ?_
              rintro (q | q)
              · exact h4 q
              · exact q h5
            rw [unL, e, if_pos rfl]
            exact unpack_ok A m c N W bs w hS hB hm (by omega) (by omega) (by omega) h5
          · have e : unE bs N W = 7 := by unfold unE; rw [if_neg h1, if_neg h2, if_neg (show ¬ bs.length < ((N : Int).toNat * (W : Int).toNat + 7) / 8 from h3)]; exact if_pos (.inr h5)
            rw [unL, e, if_neg (by omega)]
            exact unpack_pad A m c N W bs w hS hB hm (by omega) (by omega) (by omega) h5
end Bc
end Go.Proofs.Ytadhppfplndhoaa
