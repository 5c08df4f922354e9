/- What runs.Encode does: the list of kinds, what each of them writes, the shortest block. What the functions of package runs that read do where they read what was written: getPlain, getDeltas, getRun, getRuns; bytes.Equal of two slices that hold the same. -/
import Derived.Deep.RegionHeld3
import Derived.Deep.DeepCutAuto
import Derived.Laws.EntriesVeiled
import Derived.Laws.BytesArg
import Derived.Test.YtaoeipehpakngaaGreatDoorPb26
import Derived.Test.YtaoeipehpakngaaGreatDoorPb25
import Derived.Test.YtaoeipehpakngaaGreatDoorPb24
import Derived.Test.YtaoeipehpakngaaGreatDoorPb02
namespace Go.Proofs.YtaoeipehpakngaaGreatDoor
open Go.RowKit
namespace Rc
open Nc
def fput : Nat → Nat
  | 0 => 143
  | 1 => 145
  | _ => 147
def fget : Nat → Nat
  | 0 => 144
  | 1 => 146
  | _ => 148
def fnv (f : Nat) : Value := .func (.func f) #[] #[]
def kindCells : Array Value := #[fnv (fput 0), fnv (fget 0), fnv (fput 1), fnv (fget 1), fnv (fput 2), fnv (fget 2)]
theorem kinds_any (w : World) : Calls Tryz.prog 93 #[] w fun e w' => e = .returned (.slice (some ⟨w.heap.size, 0, none⟩) 3 3) ∧ w' = w.alloc (.cells kindCells 127) := by
  go_enter Tryz.func93, Tryz.ntmps93
  go_wp2
  go_ret
  exact ⟨rfl, rfl⟩
def Goes (f : Nat) : Prop := ∀ (args : Array Value) (w : World), (callFunc f args).run Tryz.prog w = .ok (.enter f args) w
set_option maxRecDepth 1000000 in
theorem goes_put (k : Nat) (hk : k < 3) : Goes (fput k) := by
  match k, hk with
  | 0, _ => exact fun args w => by kernel_rfl
  | 1, _ => exact fun args w => by kernel_rfl
  | 2, _ => exact fun args w => by kernel_rfl
theorem fput_any (k : Nat) (hk : k < 3) (A : Option Addr) (m c : Nat) (l : List Int) (w : World) (hS : Wd.Sl w .i64 A m c l) (hm : m ≤ 100000) (hF : Rn.Fits l) :
    Calls Tryz.prog (fput k) #[.slice A m c] w (Wd.Out w .u8 (Rn.body l k)) := by
  match k, hk with
  | 0, _ => exact putPlain_any A m c l w hS hm hF
  | 1, _ => exact putRuns_any A m c l w hS hm hF
  | 2, _ => exact putDeltas_any A m c l w hS hm
theorem putLen_own (A : Option Addr) (m c : Nat) (bs : List Int) (n : Int) (w : World) (hb : Wd.Sl w .u8 A m c bs) (hm : m ≤ 10000000) (h0 : 0 ≤ n) (h1 : n ≤ 9223372036854775807) :
    Calls Tryz.prog 50 #[.slice A m c, .int .i64 n] w fun e w' => ∃ v, e = .returned v ∧ w'.ownsRow w.heap.size 5 1 v (bs ++ Nm.vd n).length ((bs ++ Nm.vd n).map (Value.int .u8)) ∧ Below w.heap.size w w' := by
  obtain ⟨rfl, hc, _, _, hr⟩ := hb
  go_enter Tryz.func50, Tryz.ntmps50
  go_wp2_with fail
  refine (putVarint_own A c bs n w hr hc hm (by omega) (by omega)).mono ?_
  rintro e w' ⟨v, rfl, hO⟩
  go_wp2_with fail
  go_ret
  exact ⟨v, rfl, hO⟩
def EncV (W : World) (l : List Int) (k : Nat) (v : Value) : Prop :=
  (k = 0 ∧ v = .slice none 0 0) ∨ (1 ≤ k ∧ ∃ ad n c, v = .slice (some ad) n c ∧ Wd.Sl W .u8 (some ad) n c (Rn.block l (Rn.bi l k)))
theorem EncV.below {W W' : World} {l : List Int} {k : Nat} {v : Value} (h : EncV W l k v) (hb : Below W.heap.size W W') : EncV W' l k v := by
  rcases h with h | ⟨h1, ad, n, c, h2, h3⟩
  · exact .inl h
  · exact .inr ⟨h1, ad, n, c, h2, h3.below hb⟩
theorem some_of {W : World} {k : IntKind} {A : Option Addr} {n c : Nat} {ys : List Int} (h : Wd.Sl W k A n c ys) (h0 : 0 < ys.length) : ∃ ad, A = some ad := by
  obtain ⟨b, o, e, _⟩ := h.rd.some_ h0
  exact ⟨_, e⟩
set_option maxRecDepth 100000 in
set_option maxHeartbeats 2000000 in
theorem encode_ok (A : Option Addr) (m c : Nat) (l : List Int) (w : World) (hS : Wd.Sl w .i64 A m c l) (hm : m ≤ 4096) (hF : Rn.Fits l) :
    Calls Tryz.prog 46 #[.slice A m c] w (Wd.Out2 w .u8 (Rn.enc l) 0) := by
  obtain ⟨i0, hi, hz0, hz1, hz2⟩ := info_parts info_u8
  have hl := hS.len
  have Hl := Lib.hid hl
  have hcap := hS.cap
  have HF := Lib.hid hF
  have hdm : decide ((4096 : Int) < (m : Int)) = false := by simp; omega
  clear hl hF
  go_enter Tryz.func46, Tryz.ntmps46
  go_wp2_with fail
  refine (kinds_any w).mono ?_
  rintro e w1 ⟨rfl, rfl⟩
  have hX0 := Wd.Bx.new w 127 kindCells
  have hb0 : Below w.heap.size w (w.alloc (.cells kindCells 127)) := (Below.refl _ _).alloc (Nat.le_refl _) _
  generalize w.alloc (.cells kindCells 127) = w1 at *
  go_wp2_with fail
  go_loopw [4, 13] (fun v i wr => ∃ k : Nat, i = .int .i64 k ∧ k ≤ 3 ∧ Hid (EncV wr l k v) ∧ Wd.Bx wr w.heap.size 127 kindCells ∧ Below w.heap.size w wr) (fun _ i _ => 3 - (intOf i).toNat)
  case atStart => exact ⟨0, rfl, Nat.zero_le _, Lib.hid (.inl ⟨rfl, rfl⟩), hX0, hb0⟩
  case round =>
    clear hX0 hb0
    obtain ⟨k, rfl, hk, hV, hX, hB⟩ := hrel
    by_cases hlt : k < 3
    · have cK : wr.cell? ⟨w.heap.size, k * 2, none⟩ = some (fnv (fput k)) := by
        rw [hX.cell]
        match k, hlt with
        | 0, _ => rfl
        | 1, _ => rfl
        | 2, _ => rfl
      have cK1 : wr.cell? ⟨w.heap.size, k * 2 + 1, none⟩ = some (fnv (fget k)) := by
        rw [hX.cell]
        match k, hlt with
        | 0, _ => rfl
        | 1, _ => rfl
        | 2, _ => rfl
      have hgo := goes_put k hlt
      have hdk : decide ((k : Int) < 3) = true := by simp; omega
      have hfp := fun w hS => fput_any k hlt A m c l w hS (by omega) HF.out
      have hbl := Rn.body_len l k
      rw [← Hl.out] at hbl
      have HX := Lib.hid hX
      have Hfp := Lib.hid hfp
      unfold Goes at hgo
      clear hX hfp
      unfold fnv at cK cK1
      generalize fput k = f at *
      generalize fget k = f' at *
      obtain ⟨wo, rfl⟩ : ∃ wo : World, wo = wr := ⟨_, rfl⟩
      have hSo := hS.below hB
      obtain ⟨ds, hds⟩ : ∃ ds, ds = Rn.body l k := ⟨_, rfl⟩
      rw [← hds] at hbl Hfp
      have Hds := Lib.hid hds
      clear hds
      have hvl := Nm.vd_len (m : Int)
      have hwk : IntKind.u8.wrap (k : Int) = (k : Int) := by
        match k, hlt with
        | 0, _ => rfl
        | 1, _ => rfl
        | 2, _ => rfl
      have tok1 : True := trivial
      go_upto_region 7 with fail
      have bF := Wd.Bx.new wo 127 #[.func (.func f) #[] #[], .func (.func f') #[] #[]]
      have hb7 : Below wo.heap.size wo (wo.alloc (.cells #[.func (.func f) #[] #[], .func (.func f') #[] #[]] 127)) := (Below.refl _ _).alloc (Nat.le_refl _) _
      have hz7 : wo.heap.size < (wo.alloc (.cells #[.func (.func f) #[] #[], .func (.func f') #[] #[]] 127)).heap.size := by simp
      generalize hw7 : wo.alloc (.cells #[.func (.func f) #[] #[], .func (.func f') #[] #[]] 127) = w7 at *
      clear hw7
      have hc7 : w7.cell? ⟨wo.heap.size, 0, none⟩ = some (.func (.func f) #[] #[]) := bF.cell 0
      have hb8 : Below w7.heap.size w7 (w7.alloc (.cells #[.int .u8 (k : Int)] 5)).drew := ((Below.refl _ w7).alloc (Nat.le_refl _) _).drew
      have hS8 : Wd.Sl (w7.alloc (.cells #[.int .u8 (k : Int)] 5)).drew .u8 (some ⟨w7.heap.size, 0, none⟩) 1 1 [(k : Int)] := (Wd.Sl.lit w7 .u8 [(k : Int)] _ _ 1 rfl rfl (by decide)).below ((Below.refl _ _).drew)
      have hpl := putLen_own (some ⟨w7.heap.size, 0, none⟩) 1 1 [(k : Int)] (m : Int) _ hS8 (by omega) (by omega) (by omega)
      have Hpl := Lib.hid hpl
      clear hpl hS8
      go_cut [7] (fun s wx => ∃ A9 n9 c9, s = .slice A9 n9 c9 ∧ Wd.Sl wx .u8 A9 n9 c9 (([(k : Int)] ++ Nm.vd m) ++ ds) ∧ Below wo.heap.size wo wx)
      case first =>
        go_region_held3 (fun w' => w'.cell? ⟨wo.heap.size, 0, none⟩ = some (.func (.func f) #[] #[])) (first | exact hc11 | exact hc10 | exact hc9 | go_keep) (first | (refine step_app _ rfl (.tmp 23) (.tmp 27) 32 rfl w7.heap.size 5 i0 _ .u8 1 Tryz.underlying32 hi hz0 hz1 hz2 rfl v9 _ rfl hown10 w10.heap.size A10 n10 c10 ds rfl hS10.len hS10.nil hS10.rd (by simp only [List.length_append, List.length_cons, List.length_nil]; omega) (by simp only [List.length_append, List.length_cons, List.length_nil]; unfold maxLen; omega) hz10 ?_; intro v11 w11 hown11 hg11; have hb11 : Below w7.heap.size w7 w11 := hb10.grown hg11 hz10 (fun g hg => (hown10.lt g hg).1); have hc11 := (hb11.cell (p := ⟨wo.heap.size, 0, none⟩) hz7).trans hc7) | (go_at_call 50; have _t := tok1; (with_reducible refine Hpl.out.mono ?_); clear tok1; rintro e w9 ⟨v9, rfl, hown9, hB9⟩; have hb9 : Below w7.heap.size w7 w9 := hb8.trans (hB9.mono hb8.size); have hown9' := Wd.own_down hown9 hb8.size; have hc9 := (hb9.cell (p := ⟨wo.heap.size, 0, none⟩) hz7).trans hc7) | ((with_reducible refine (Hfp.out _ ((hSo.below hb7).below hb9)).mono ?_); rintro e w10 ⟨A10, n10, c10, rfl, hS10, hB10⟩; have hb10 : Below w7.heap.size w7 w10 := hb9.trans (hB10.mono hb9.size); have hown10 := Wd.own_below hown9' hB10; have hz10 := hb10.size; have hc10 := (hb10.cell (p := ⟨wo.heap.size, 0, none⟩) hz7).trans hc7))
        obtain ⟨A11, n11, c11, rfl, hS11⟩ := Wd.Sl.of_own hown11
        go_wp2_with fail
        go_meet
        exact ⟨A11, n11, c11, rfl, hS11, hb7.trans (hb11.mono hb7.size)⟩
      case rest =>
        obtain ⟨A9, n9, c9, rfl, hS9, hB9⟩ := hcut
        have eb : ([(k : Int)] ++ Nm.vd m) ++ ds = Rn.block l k := by
          rw [Hds.out, Hl.out]; rfl
        rw [eb] at hS9
        have h2 := Rn.block_ge l k
        obtain ⟨ad9, rfl⟩ := some_of hS9 (by omega)
        have hV9 := hV.out.below hB9
        have HX9 := Lib.hid (HX.out.below HX.out.lt hB9)
        have hW9 : Below w.heap.size w _ := hB.trans (hB9.mono hB.size)
        have HS9 := Lib.hid hS9
        have hn9 : n9 ≤ 100000 := by rw [hS9.len]; have := Rn.block_le l k; have := Hl.out; omega
        have HB9 := Lib.hid hB9
        have HW9 := Lib.hid hW9
        clear bF hb7 hz7 hc7 hb8 Hpl hS9 h2 hV hgo hB9 hW9 cK cK1 Hfp HX hSo hB eb tok1
        rcases hV9 with ⟨hk0, rfl⟩ | ⟨hk1, ad, n4, c4, rfl, hS4⟩
        · have hnil : ∀ (w : World) (n c : Nat), (binOp .eql 32 (.slice none n c) (.slice none 0 0)).run Tryz.prog w = .ok (.bool true) w := fun _ _ _ => by kernel_rfl
          have hE : Rn.bi l (k + 1) = k := by rw [hk0]; exact Rn.bi_one l
          have HE := Lib.hid hE
          clear hE hk0
          go_wp2_with fail
          go_roundw
          case rel => exact ⟨k + 1, by go_num, by omega, Lib.hid (.inr ⟨by omega, ad9, n9, c9, rfl, by rw [HE.out]; exact HS9.out⟩), HX9.out, HW9.out⟩
          case measure => simp [intOf]; omega
        · have hnil : ∀ (w : World) (n c : Nat), (binOp .eql 32 (.slice (some ad) n c) (.slice none 0 0)).run Tryz.prog w = .ok (.bool false) w := fun _ _ _ => by kernel_rfl
          have hE : Rn.bi l (k + 1) = if n9 < n4 then k else Rn.bi l k := by
            rw [HS9.out.len, hS4.len, Rn.block_len, Rn.block_len, Rn.bi]
            by_cases q : (Rn.body l k).length < (Rn.body l (Rn.bi l k)).length
            · rw [if_pos q, if_pos (by omega)]
            · rw [if_neg q, if_neg (by omega)]
          have HE := Lib.hid hE
          have HS4 := Lib.hid hS4
          clear hE hS4
          by_cases q : n9 < n4
          · go_wp2_with fail
            go_roundw
            case rel => exact ⟨k + 1, by go_num, by omega, Lib.hid (.inr ⟨by omega, ad9, n9, c9, rfl, by rw [HE.out, if_pos q]; exact HS9.out⟩), HX9.out, HW9.out⟩
            case measure => simp [intOf]; omega
          · go_wp2_with fail
            go_roundw
            case rel => exact ⟨k + 1, by go_num, by omega, Lib.hid (.inr ⟨by omega, ad, n4, c4, rfl, by rw [HE.out, if_neg q]; exact HS4.out⟩), HX9.out, HW9.out⟩
            case measure => simp [intOf]; omega
    · obtain rfl : k = 3 := by omega
      rcases hV.out with ⟨hk0, _⟩ | ⟨_, ad, n4, c4, rfl, hS4⟩
      · omega
      · go_wp2_with fail
        go_ret2
        exact ⟨_, _, _, rfl, hS4, hB⟩
end Rc
end Go.Proofs.YtaoeipehpakngaaGreatDoor
namespace Go.Proofs.YtaoeipehpakngaaGreatDoor
set_option maxRecDepth 20000
open Go.RowKit
namespace Rc
open Nc Lw
theorem equal_same (A B : Option Addr) (n c d : Nat) (xs : List Int) (w : World) (hA : Wd.Sl w .u8 A n c xs) (hB : Wd.Sl w .u8 B n d xs) (h0 : 0 < n) :
    Calls Tryz.prog 162 #[.slice A n c, .slice B n d] w fun e w' => e = .returned (.bool true) ∧ w = w' := by
  have hl := hA.len
  obtain ⟨b1, o1, rfl, _, h1⟩ := hA.rd.some_ (by omega)
  obtain ⟨b2, o2, rfl, _, h2⟩ := hB.rd.some_ (by omega)
  have k1 := run_convert_bytes_arg (P := Tryz.prog) w 32 5 Tryz.underlying32 Tryz.underlying5 b1 o1 n c xs hl.symm (by rw [hl]; exact h1) 9 Tryz.underlying9
  have k2 := run_convert_bytes_arg (P := Tryz.prog) w 32 5 Tryz.underlying32 Tryz.underlying5 b2 o2 n d xs hl.symm (by rw [hl]; exact h2) 9 Tryz.underlying9
  generalize strOfNums xs = s at *
  clear h1 h2 hA hB hl
  go_enter Tryz.func162, Tryz.ntmps162
  go_wp2_with fail
  go_ret
  exact ⟨by simp, rfl⟩
set_option maxHeartbeats 1000000 in
theorem getPlain_any (A : Option Addr) (n c : Nat) (zs more : List Int) (N : Nat) (w : World) (hS : Wd.Sl w .u8 A n c (Rn.plain zs ++ more)) (hby : Nm.Byt (Rn.plain zs ++ more)) (hN : N = zs.length) (hN2 : N ≤ 100000) (hF : Rn.Fits zs) :
    Calls Tryz.prog 144 #[.slice A n c, .int .i64 N] w (Wd.Out3N w zs (Rn.plain zs).length 0) := by
  obtain ⟨i0, hi, hz0, hz1, hz2⟩ := info_parts info_int
  have HN := Lib.hid hN
  have HF := Lib.hid hF
  have Hby := Lib.hid hby
  have hnl : (Rn.plain zs).length ≤ n := by rw [hS.len, List.length_append]; omega
  have hpl : (Rn.plain zs).length ≤ 1000000 := by have := (Rn.plain_len zs).2; omega
  have hcap := hS.cap
  have hmax := hS.max
  unfold maxLen at hmax
  clear hN hF hby
  go_enter Tryz.func144, Tryz.ntmps144
  go_wp2_with (at_make; refine wpList_make_own _ rfl (.const (.int .i64 0)) (.tmp 12) 25 rfl w.heap.size 3 i0 _ 1 Tryz.underlying25 hi hz0 hz1 .i64 .i64 N N rfl rfl rfl (by rw [hz2]; omega) (by unfold maxLen; omega) (Nat.le_refl _) ?_; intro w3 hown hgrow)
  have hb3 := (Below.refl w.heap.size w).grown hgrow (Nat.le_refl _) (by simp)
  clear hgrow
  go_loopw [7, 8, 15] (fun v p i wr => ∃ (k L : Nat) (ys : List Int), i = .int .i64 k ∧ k ≤ N ∧ p = .int .i64 L ∧ Hid (L = (Rn.plain (zs.take k)).length ∧ ys = zs.take k) ∧ wr.ownsRow w.heap.size 3 1 v ys.length (ys.map (Value.int .i64)) ∧ Below w.heap.size w wr) (fun _ _ i _ => N - (intOf i).toNat)
  case atStart => exact ⟨0, 0, [], rfl, Nat.zero_le _, rfl, Lib.hid ⟨rfl, rfl⟩, hown, hb3⟩
  case round =>
    clear hown hb3
    obtain ⟨k, L, ys, rfl, hk, rfl, hLy, hown, hB⟩ := hrel
    have hsz := hB.size
    by_cases hlt : k < N
    · obtain ⟨x, d, hx1, hx2, hL2, hd1, hd2, hc1, hyl, hst⟩ : ∃ (x : Int) (d : Nat), -9223372036854775808 ≤ x ∧ x ≤ 9223372036854775807 ∧ L + d ≤ (Rn.plain zs).length ∧ 1 ≤ d ∧ d ≤ 10 ∧
          Calls Tryz.prog 193 #[.slice (A.map (·.add L)) (n - L) (c - L)] wr (fun e w' => e = .returned (three .i64 (x, (d : Int), 0)) ∧ wr = w') ∧ ys.length ≤ 100000 ∧
          (L + d = (Rn.plain (zs.take (k + 1))).length ∧ ys ++ [x] = zs.take (k + 1)) := by
        obtain ⟨rfl, rfl⟩ := hLy.out
        have hkl : k < zs.length := by rw [← HN.out]; exact hlt
        have hx := Wd.fit_get HF.out k hkl
        have hnx := Rn.plain_next zs k hkl
        have hL2 : (Rn.plain (zs.take (k + 1))).length ≤ (Rn.plain zs).length := by
          have h := congrArg List.length (congrArg Rn.plain (List.take_append_drop (k + 1) zs))
          rw [Rn.plain_app, List.length_append] at h
          omega
        have hc1 := get_any _ _ _ _ wr ((hS.below hB).cut (Rn.plain (zs.take k)).length (by rw [hnx, List.length_append] at hL2; omega)) (fun y hy => Hby.out y (List.mem_of_mem_drop hy))
        rw [Rn.plain_drop zs k hkl more, getI_vd _ _ hx.1 hx.2] at hc1
        have hlen := congrArg List.length hnx
        rw [List.length_append] at hlen
        have hv := Nm.vd_len (Nm.zz (zs.getD k 0))
        rw [if_neg (by omega)] at hc1
        exact ⟨zs.getD k 0, (Nm.vd (Nm.zz (zs.getD k 0))).length, hx.1, hx.2, by omega, hv.1, hv.2, hc1, by rw [List.length_take]; omega, hlen.symm, (Rn.take_next zs k 0 hkl).symm⟩
      have Hc1 := Lib.hid hc1
      have Hst := Lib.hid hst
      obtain ⟨wo, rfl⟩ : ∃ wo : World, wo = wr := ⟨_, rfl⟩
      clear hc1 hst
      go_wp2_with fail
      refine Hc1.out.mono ?_
      rintro e w2 ⟨rfl, rfl⟩
      unfold three
      go_wp2_with (at_builtin; refine Wd.wpList_app _ rfl (.tmp 28) (.tmp 30) 25 rfl w.heap.size 3 i0 _ .i64 8 Tryz.underlying25 hi hz0 hz1 hz2 rfl _ ys rfl (hown.alloc _) (wo.heap.size + 1) _ 1 1 [x] rfl rfl (by simp) (Wd.Rd.lit wo .i64 [x] _ _ rfl) (by simp; omega) (by simp [maxLen]; omega) (by simp; omega) ?_; intro v' w1 hown1 hg1)
      go_roundw
      case rel => exact ⟨k + 1, L + d, ys ++ [x], by go_num, by omega, by go_num, Lib.hid Hst.out, hown1, (hB.alloc hsz _).grown hg1 (by simp; omega) (fun g hg => (hown.lt g hg).1)⟩
      case measure => simp [intOf]; omega
    · go_wp2_with fail
      go_ret3
      obtain ⟨rfl, rfl⟩ := hLy.out
      have e : zs.take k = zs := List.take_of_length_le (by have := HN.out; omega)
      rw [e] at hown ⊢
      obtain ⟨A', n', c', rfl, hS'⟩ := Wd.Sl.of_own hown
      exact ⟨A', n', c', rfl, ⟨hS', Wd.own_ge hown⟩, hB⟩
theorem getDeltas_any (A : Option Addr) (n c : Nat) (zs more : List Int) (N : Nat) (w : World) (hS : Wd.Sl w .u8 A n c (Rn.plain (Rn.deltas zs) ++ more)) (hby : Nm.Byt (Rn.plain (Rn.deltas zs) ++ more)) (hN : N = zs.length) (hN2 : N ≤ 100000) (hF : Rn.Fits zs) :
    Calls Tryz.prog 148 #[.slice A n c, .int .i64 N] w (Wd.Out3N w zs (Rn.plain (Rn.deltas zs)).length 0) := by
  have hdf := Rn.deltas_fits zs
  have hdl := Rn.deltas_len zs
  have hsd := Rn.sums_deltas zs hF
  have c1 := getPlain_any A n c (Rn.deltas zs) more N w hS hby (by omega) hN2 hdf
  have c2 := fun A n c w hS hm => sums_new A n c (Rn.deltas zs) w hS hm
  rw [hsd] at c2
  have hd2 : (Rn.deltas zs).length ≤ 1000000 := by omega
  have hpl : (Rn.plain (Rn.deltas zs)).length ≤ 1000000 := by have := (Rn.plain_len (Rn.deltas zs)).2; omega
  generalize (Rn.plain (Rn.deltas zs)).length = L at *
  generalize Rn.deltas zs = d at *
  have C1 := Lib.hid c1
  have C2 := Lib.hid c2
  clear c1 c2 hdf hdl hsd hby hS hN
  go_enter Tryz.func148, Tryz.ntmps148
  go_wp2_with fail
  refine C1.out.mono ?_
  rintro e w1 ⟨A1, n1, c1, rfl, hS1, hB1⟩
  have hn1 : n1 ≤ 1000000 := by rw [hS1.1.len]; exact hd2
  go_wp2_with fail
  refine (C2.out A1 n1 c1 w1 hS1.1 hn1).mono ?_
  rintro e w2 ⟨A2, n2, c2, rfl, hS2, hB2⟩
  go_wp2_with fail
  go_ret3
  exact ⟨A2, n2, c2, rfl, hS2.up hB1.size, hB1.trans (hB2.mono hB1.size)⟩
set_option maxHeartbeats 1000000 in
theorem getRun_any (A : Option Addr) (n c : Nat) (v k : Int) (more : List Int) (w : World) (hS : Wd.Sl w .u8 A n c (Nm.vd (Nm.zz v) ++ (Nm.vd k ++ more))) (hby : Nm.Byt (Nm.vd (Nm.zz v) ++ (Nm.vd k ++ more))) (hv : Rn.Fit v) (h0 : 0 ≤ k) (h1 : k ≤ 9223372036854775807) :
    Calls Tryz.prog 195 #[.slice A n c] w fun e w' => e = .returned (.tuple #[.agg #[.int .i64 v, .int .i64 k], .int .i64 ((Nm.vd (Nm.zz v)).length + (Nm.vd k).length : Nat), .int .i64 0]) ∧ Below w.heap.size w w' := by
  have hg := getI_vd v (Nm.vd k ++ more) hv.1 hv.2
  have hg2 := getL_vd k more h0 h1
  have c1 := fun w hS => get_any A n c _ w hS hby
  rw [hg] at c1
  have hnl : (Nm.vd (Nm.zz v)).length + (Nm.vd k).length ≤ n := by rw [hS.len, List.length_append, List.length_append]; omega
  have hl1 := Nm.vd_len (Nm.zz v)
  have hl2 := Nm.vd_len k
  have c2 := fun (w' : World) (hb : Below w.heap.size w w') => getLen_any _ _ _ _ w' ((hS.below hb).cut (Nm.vd (Nm.zz v)).length (by omega)) (fun y hy => hby y (List.mem_of_mem_drop hy))
  rw [List.drop_left, hg2] at c2
  have hcap := hS.cap
  have hmax := hS.max
  unfold maxLen at hmax
  rw [if_neg (show ¬ c = (Nm.vd (Nm.zz v)).length by omega)] at c2
  generalize (Nm.vd (Nm.zz v)).length = L at *
  generalize (Nm.vd k).length = M at *
  have C1 := Lib.hid c1
  have C2 := Lib.hid c2
  have HS := Lib.hid hS
  clear c1 c2 hg hg2 hby hS
  have hb0 : Below w.heap.size w (w.alloc (.cells #[.int .i64 0, .int .i64 0] 144)) := (Below.refl _ _).alloc (Nat.le_refl _) _
  go_enter Tryz.func195, Tryz.ntmps195
  go_wp2_with fail
  refine (C1.out _ (HS.out.below hb0)).mono ?_
  rintro e w1 ⟨rfl, rfl⟩
  unfold three
  go_wp2_with fail
  refine (C2.out _ hb0).mono ?_
  rintro e w1 ⟨rfl, rfl⟩
  unfold three
  go_wp2_with fail
  refine bodyPost_ret (v := .tuple #[.agg #[.int .i64 v, .int .i64 k], .int .i64 ((L : Int) + (M : Int)), .int .i64 0]) (by simp [results, Tryz.results195, go_sem]) rfl ⟨by go_num, ?_⟩
  exact (Below.refl _ _).alloc (Nat.le_refl _) _
set_option maxHeartbeats 1000000 in
theorem getRuns_any (A : Option Addr) (n c : Nat) (rs : Rn.Rs) (more : List Int) (N : Nat) (w : World) (hS : Wd.Sl w .u8 A n c (Rn.runB rs ++ more)) (hby : Nm.Byt (Rn.runB rs ++ more)) (hN : N = (Rn.flat rs).length) (hN2 : N ≤ 4096) (hF : Rn.FitR rs) (hrl : rs.length ≤ 4096) :
    Calls Tryz.prog 146 #[.slice A n c, .int .i64 N] w (Wd.Out3N w (Rn.flat rs) (Rn.runB rs).length 0) := by
  obtain ⟨i0, hi, hz0, hz1, hz2⟩ := info_parts info_int
  have HN := Lib.hid hN
  have HF := Lib.hid hF
  have Hby := Lib.hid hby
  have hnl : (Rn.runB rs).length ≤ n := by rw [hS.len, List.length_append]; omega
  have hpl : (Rn.runB rs).length ≤ 1000000 := by have := Rn.runB_len rs; omega
  have hcap := hS.cap
  have hmax := hS.max
  unfold maxLen at hmax
  clear hN hF hby
  go_enter Tryz.func146, Tryz.ntmps146
  go_wp2_with (at_make; refine wpList_make_own _ rfl (.const (.int .i64 0)) (.tmp 12) 25 rfl w.heap.size 3 i0 _ 1 Tryz.underlying25 hi hz0 hz1 .i64 .i64 N N rfl rfl rfl (by rw [hz2]; omega) (by unfold maxLen; omega) (Nat.le_refl _) ?_; intro w3 hown hgrow)
  have hb3 := (Below.refl w.heap.size w).grown hgrow (Nat.le_refl _) (by simp)
  clear hgrow
  go_loopw [7, 8] (fun v p wr => ∃ (k L t : Nat) (B' : Option Addr) (c' : Nat) (ys : List Int), v = .slice B' t c' ∧ p = .int .i64 L ∧ Hid (k ≤ rs.length ∧ L = (Rn.runB (rs.take k)).length ∧ ys = Rn.flat (rs.take k) ∧ t = ys.length) ∧ t ≤ N ∧ wr.ownsRow w.heap.size 3 1 (.slice B' t c') ys.length (ys.map (Value.int .i64)) ∧ Below w.heap.size w wr) (fun v _ _ => N - Wd.lenOf v)
  case atStart => exact ⟨0, 0, 0, _, _, [], rfl, rfl, Lib.hid ⟨Nat.zero_le _, rfl, rfl, rfl⟩, Nat.zero_le _, hown, hb3⟩
  case round =>
    clear hown hb3
    obtain ⟨k, L, t, B', c', ys, rfl, rfl, hLy, htN, hown, hB⟩ := hrel
    have hsz := hB.size
    by_cases hlt : t < N
    · obtain ⟨x, q, d, hx, hq1, hq2, hL2, hd1, hd2, hc1, hst⟩ : ∃ (x q : Int) (d : Nat), Rn.Fit x ∧ 1 ≤ q ∧ q ≤ (N : Int) - (t : Int) ∧ L + d ≤ (Rn.runB rs).length ∧ 1 ≤ d ∧ d ≤ 20 ∧
          Calls Tryz.prog 195 #[.slice (A.map (·.add L)) (n - L) (c - L)] wr (fun e w' => e = .returned (.tuple #[.agg #[.int .i64 x, .int .i64 q], .int .i64 (d : Int), .int .i64 0]) ∧ Below wr.heap.size wr w') ∧
          (k + 1 ≤ rs.length ∧ L + d = (Rn.runB (rs.take (k + 1))).length ∧ ys ++ List.replicate q.toNat x = Rn.flat (rs.take (k + 1)) ∧ t + q.toNat = (ys ++ List.replicate q.toNat x).length) := by
        obtain ⟨hk, rfl, rfl, rfl⟩ := hLy.out
        have hkl : k < rs.length := by
          rcases Nat.lt_or_ge k rs.length with h | h
          · exact h
          · exfalso
            rw [List.take_of_length_le h, ← HN.out] at hlt
            omega
        have hm := HF.out (rs.getD k (0, 0)) (by simp [List.getD, hkl])
        have hnx := Rn.runB_next rs k hkl
        have hfx := Rn.flat_next rs k hkl
        have hL2 : (Rn.runB (rs.take (k + 1))).length ≤ (Rn.runB rs).length := by
          have h := congrArg List.length (congrArg Rn.runB (List.take_append_drop (k + 1) rs))
          rw [Rn.runB_app, List.length_append] at h
          omega
        have hfl := Rn.flat_take_len rs (k + 1)
        have hlen := congrArg List.length hnx
        rw [List.length_append, List.length_append] at hlen
        have hflen := congrArg List.length hfx
        rw [List.length_append, List.length_replicate] at hflen
        have v1 := Nm.vd_len (Nm.zz (rs.getD k (0, 0)).1)
        have v2 := Nm.vd_len (rs.getD k (0, 0)).2
        have hcut := (hS.below hB).cut (Rn.runB (rs.take k)).length (by omega)
        rw [if_neg (by omega), Rn.runB_drop rs k hkl more] at hcut
        have hb2 : Nm.Byt (Nm.vd (Nm.zz (rs.getD k (0, 0)).1) ++ (Nm.vd (rs.getD k (0, 0)).2 ++ (Rn.runB (rs.drop (k + 1)) ++ more))) := by
          rw [← Rn.runB_drop rs k hkl more]
          exact fun y hy => Hby.out y (List.mem_of_mem_drop hy)
        have hc1 := getRun_any _ _ _ _ _ _ wr hcut hb2 hm.1 (by omega) (by omega)
        exact ⟨(rs.getD k (0, 0)).1, (rs.getD k (0, 0)).2, _, hm.1, hm.2.1, by rw [HN.out]; omega, by omega, by omega, by omega, hc1, hkl, by omega, hfx.symm, by rw [List.length_append, List.length_replicate]⟩
      have Hc1 := Lib.hid hc1
      have Hst := Lib.hid hst
      have hyl : ys.length ≤ 100000 := by have := hLy.out.2.2.2; omega
      obtain ⟨wo, rfl⟩ : ∃ wo : World, wo = wr := ⟨_, rfl⟩
      have hq0 : (q == 0) = false := by rw [beq_eq_false_iff_ne]; omega
      clear hc1 hst
      go_wp2_with fail
      refine Hc1.out.mono ?_
      rintro e w2 ⟨rfl, hB2⟩
      have hown2 := Wd.own_below hown hB2
      have hW2 : Below w.heap.size w w2 := hB.trans (hB2.mono hsz)
      have hsz2 := hW2.size
      clear hB2 hown hB
      go_wp2_with fail
      refine (appendRun_any w.heap.size _ ys x q _ (hown2.alloc _) (by simp; omega) hyl (by omega) (by omega)).mono ?_
      rintro e w4 ⟨v4, rfl, hown4, hB4⟩
      have hW4 : Below w.heap.size w w4 := (hW2.alloc hsz2 _).trans hB4
      obtain ⟨B4, c4, rfl⟩ := Wd.own_slice hown4 Hst.out.2.2.2.symm
      go_wp2_with fail
      go_roundw
      case rel => exact ⟨k + 1, L + d, t + q.toNat, B4, c4, _, rfl, by go_num, Lib.hid Hst.out, by omega, hown4, hW4⟩
      case measure => simp [Wd.lenOf]; omega
    · go_wp2_with fail
      go_ret3
      obtain ⟨hk, rfl, rfl, rfl⟩ := hLy.out
      have hkl : k = rs.length := by
        rcases Nat.lt_or_ge k rs.length with h | h
        · exfalso
          have hm := HF.out (rs.getD k (0, 0)) (by simp [List.getD, h])
          have h1 := congrArg List.length (Rn.flat_next rs k h)
          rw [List.length_append, List.length_replicate] at h1
          have h2 := Rn.flat_take_len rs (k + 1)
          rw [← HN.out] at h2
          omega
        · omega
      have e : rs.take k = rs := List.take_of_length_le (by omega)
      rw [e] at hown ⊢
      obtain ⟨A', n', c2, e2, hS'⟩ := Wd.Sl.of_own hown
      cases e2
      exact ⟨_, _, _, rfl, ⟨hS', Wd.own_ge hown⟩, hB⟩
end Rc
end Go.Proofs.YtaoeipehpakngaaGreatDoor
