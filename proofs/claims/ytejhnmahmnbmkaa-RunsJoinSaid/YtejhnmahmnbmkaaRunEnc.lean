/- What runs.Encode does: the list of kinds, what each of them writes, the shortest block. -/
import Derived.Test.YtejhnmahmnbmkaaRunPut
import Derived.Deep.RegionHeld3
import Derived.Deep.DeepCutAuto
import Derived.Laws.EntriesVeiled
namespace Go.Proofs.Ytejhnmahmnbmkaa
open Go.RowKit
namespace Rc
open Nc

/-- The functions' numbers, kind by kind. -/
def fput : Nat → Nat
  | 0 => 39
  | 1 => 41
  | _ => 43
def fget : Nat → Nat
  | 0 => 40
  | 1 => 42
  | _ => 44
def fnv (f : Nat) : Value := .func (.func f) #[] #[]
/-- The cells of the list of kinds. -/
def kindCells : Array Value := #[fnv (fput 0), fnv (fget 0), fnv (fput 1), fnv (fget 1), fnv (fput 2), fnv (fget 2)]

theorem kinds_any (w : World) : Calls Try.prog 28 #[] w fun e w' => e = .returned (.slice (some ⟨w.heap.size, 0, none⟩) 3 3) ∧ w' = w.alloc (.cells kindCells 56) := by
  go_enter Try.func28, Try.ntmps28
  go_wp2
  go_ret
  exact ⟨rfl, rfl⟩
/-- The function f has a body, which a call enters. -/
def Goes (f : Nat) : Prop := ∀ (args : Array Value) (w : World), (callFunc f args).run Try.prog w = .ok (.enter f args) w
theorem goes_put (k : Nat) (hk : k < 3) : Goes (fput k) := by
  match k, hk with
  | 0, _ => exact fun args w => by kernel_rfl
  | 1, _ => exact fun args w => by kernel_rfl
  | 2, _ => exact fun args w => by kernel_rfl
theorem fput_any (k : Nat) (hk : k < 3) (A : Option Addr) (m c : Nat) (l : List Int) (w : World) (hS : Wd.Sl w .i64 A m c l) (hm : m ≤ 100000) (hF : Rn.Fits l) :
    Calls Try.prog (fput k) #[.slice A m c] w (Wd.Out w .u8 (Rn.body l k)) := by
  match k, hk with
  | 0, _ => exact putPlain_any A m c l w hS hm hF
  | 1, _ => exact putRuns_any A m c l w hS hm hF
  | 2, _ => exact putDeltas_any A m c l w hS hm

theorem putLen_own (A : Option Addr) (m c : Nat) (bs : List Int) (n : Int) (w : World) (hb : Wd.Sl w .u8 A m c bs) (hm : m ≤ 10000000) (h0 : 0 ≤ n) (h1 : n ≤ 9223372036854775807) :
    Calls Try.prog 29 #[.slice A m c, .int .i64 n] w fun e w' => ∃ v, e = .returned v ∧ w'.ownsRow w.heap.size 5 1 v (bs ++ Nm.vd n).length ((bs ++ Nm.vd n).map (Value.int .u8)) ∧ Below w.heap.size w w' := by
  obtain ⟨rfl, hc, _, _, hr⟩ := hb
  go_enter Try.func29, Try.ntmps29
  go_wp2_with fail
  refine (putVarint_own A c bs n w hr hc hm (by omega) (by omega)).mono ?_
  rintro e w' ⟨v, rfl, hO⟩
  go_wp2_with fail
  go_ret
  exact ⟨v, rfl, hO⟩

/-- The shortest block among the first k kinds; nil ahead of the first. -/
def EncV (W : World) (l : List Int) (k : Nat) (v : Value) : Prop :=
  (k = 0 ∧ v = .slice none 0 0) ∨ (1 ≤ k ∧ ∃ ad n c, v = .slice (some ad) n c ∧ Wd.Sl W .u8 (some ad) n c (Rn.block l (Rn.bi l k)))
theorem EncV.below {W W' : World} {l : List Int} {k : Nat} {v : Value} (h : EncV W l k v) (hb : Below W.heap.size W W') : EncV W' l k v := by
  rcases h with h | ⟨h1, ad, n, c, h2, h3⟩
  · exact .inl h
  · exact .inr ⟨h1, ad, n, c, h2, h3.below hb⟩
theorem some_of {W : World} {k : IntKind} {A : Option Addr} {n c : Nat} {ys : List Int} (h : Wd.Sl W k A n c ys) (h0 : 0 < ys.length) : ∃ ad, A = some ad := by
  obtain ⟨b, o, e, _⟩ := h.rd.some_ h0
  exact ⟨_, e⟩

set_option maxRecDepth 100000 in
set_option maxHeartbeats 2000000 in
theorem encode_ok (A : Option Addr) (m c : Nat) (l : List Int) (w : World) (hS : Wd.Sl w .i64 A m c l) (hm : m ≤ 4096) (hF : Rn.Fits l) :
    Calls Try.prog 20 #[.slice A m c] w (Wd.Out2 w .u8 (Rn.enc l) 0) := by
  obtain ⟨i0, hi, hz0, hz1, hz2⟩ := info_parts info_u8
  have hl := hS.len
  have Hl := Lib.hid hl
  have hcap := hS.cap
  have HF := Lib.hid hF
  have hdm : decide ((4096 : Int) < (m : Int)) = false := by simp; omega
  clear hl hF
  go_enter Try.func20, Try.ntmps20
  go_wp2_with fail
  refine (kinds_any w).mono ?_
  rintro e w1 ⟨rfl, rfl⟩
  have hX0 := Wd.Bx.new w 56 kindCells
  have hb0 : Below w.heap.size w (w.alloc (.cells kindCells 56)) := (Below.refl _ _).alloc (Nat.le_refl _) _
  generalize w.alloc (.cells kindCells 56) = w1 at *
  go_wp2_with fail
  go_loopw [4, 13] (fun v i wr => ∃ k : Nat, i = .int .i64 k ∧ k ≤ 3 ∧ Hid (EncV wr l k v) ∧ Wd.Bx wr w.heap.size 56 kindCells ∧ Below w.heap.size w wr) (fun _ i _ => 3 - (intOf i).toNat)
  case atStart => exact ⟨0, rfl, Nat.zero_le _, Lib.hid (.inl ⟨rfl, rfl⟩), hX0, hb0⟩
  case round =>
    clear hX0 hb0
    obtain ⟨k, rfl, hk, hV, hX, hB⟩ := hrel
    by_cases hlt : k < 3
    · have cK : wr.cell? ⟨w.heap.size, k * 2, none⟩ = some (fnv (fput k)) := by
        rw [hX.cell]
        match k, hlt with
        | 0, _ => rfl
        | 1, _ => rfl
        | 2, _ => rfl
      have cK1 : wr.cell? ⟨w.heap.size, k * 2 + 1, none⟩ = some (fnv (fget k)) := by
        rw [hX.cell]
        match k, hlt with
        | 0, _ => rfl
        | 1, _ => rfl
        | 2, _ => rfl
      have hgo := goes_put k hlt
      have hdk : decide ((k : Int) < 3) = true := by simp; omega
      have hfp := fun w hS => fput_any k hlt A m c l w hS (by omega) HF.out
      have hbl := Rn.body_len l k
      rw [← Hl.out] at hbl
      have HX := Lib.hid hX
      have Hfp := Lib.hid hfp
      unfold Goes at hgo
      clear hX hfp
      unfold fnv at cK cK1
      generalize fput k = f at *
      generalize fget k = f' at *
      obtain ⟨wo, rfl⟩ : ∃ wo : World, wo = wr := ⟨_, rfl⟩
      have hSo := hS.below hB
      obtain ⟨ds, hds⟩ : ∃ ds, ds = Rn.body l k := ⟨_, rfl⟩
      rw [← hds] at hbl Hfp
      have Hds := Lib.hid hds
      clear hds
      have hvl := Nm.vd_len (m : Int)
      have hwk : IntKind.u8.wrap (k : Int) = (k : Int) := by
        match k, hlt with
        | 0, _ => rfl
        | 1, _ => rfl
        | 2, _ => rfl
      have tok1 : True := trivial
      go_upto_region 7 with fail
      have bF := Wd.Bx.new wo 56 #[.func (.func f) #[] #[], .func (.func f') #[] #[]]
      have hb7 : Below wo.heap.size wo (wo.alloc (.cells #[.func (.func f) #[] #[], .func (.func f') #[] #[]] 56)) := (Below.refl _ _).alloc (Nat.le_refl _) _
      have hz7 : wo.heap.size < (wo.alloc (.cells #[.func (.func f) #[] #[], .func (.func f') #[] #[]] 56)).heap.size := by simp
      generalize hw7 : wo.alloc (.cells #[.func (.func f) #[] #[], .func (.func f') #[] #[]] 56) = w7 at *
      clear hw7
      have hc7 : w7.cell? ⟨wo.heap.size, 0, none⟩ = some (.func (.func f) #[] #[]) := bF.cell 0
      have hb8 : Below w7.heap.size w7 (w7.alloc (.cells #[.int .u8 (k : Int)] 5)).drew := ((Below.refl _ w7).alloc (Nat.le_refl _) _).drew
      have hS8 : Wd.Sl (w7.alloc (.cells #[.int .u8 (k : Int)] 5)).drew .u8 (some ⟨w7.heap.size, 0, none⟩) 1 1 [(k : Int)] := (Wd.Sl.lit w7 .u8 [(k : Int)] _ _ 1 rfl rfl (by decide)).below ((Below.refl _ _).drew)
      have hpl := putLen_own (some ⟨w7.heap.size, 0, none⟩) 1 1 [(k : Int)] (m : Int) _ hS8 (by omega) (by omega) (by omega)
      have Hpl := Lib.hid hpl
      clear hpl hS8
      go_cut [7] (fun s wx => ∃ A9 n9 c9, s = .slice A9 n9 c9 ∧ Wd.Sl wx .u8 A9 n9 c9 (([(k : Int)] ++ Nm.vd m) ++ ds) ∧ Below wo.heap.size wo wx)
      case first =>
        go_region_held3 (fun w' => w'.cell? ⟨wo.heap.size, 0, none⟩ = some (.func (.func f) #[] #[])) (first | exact hc11 | exact hc10 | exact hc9 | go_keep) (first | (refine step_app _ rfl (.tmp 23) (.tmp 27) 33 rfl w7.heap.size 5 i0 _ .u8 1 Try.underlying33 hi hz0 hz1 hz2 rfl v9 _ rfl hown10 w10.heap.size A10 n10 c10 ds rfl hS10.len hS10.nil hS10.rd (by simp only [List.length_append, List.length_cons, List.length_nil]; omega) (by simp only [List.length_append, List.length_cons, List.length_nil]; unfold maxLen; omega) hz10 ?_; intro v11 w11 hown11 hg11; have hb11 : Below w7.heap.size w7 w11 := hb10.grown hg11 hz10 (fun g hg => (hown10.lt g hg).1); have hc11 := (hb11.cell (p := ⟨wo.heap.size, 0, none⟩) hz7).trans hc7) | (go_at_call 29; have _t := tok1; (with_reducible refine Hpl.out.mono ?_); clear tok1; rintro e w9 ⟨v9, rfl, hown9, hB9⟩; have hb9 : Below w7.heap.size w7 w9 := hb8.trans (hB9.mono hb8.size); have hown9' := Wd.own_down hown9 hb8.size; have hc9 := (hb9.cell (p := ⟨wo.heap.size, 0, none⟩) hz7).trans hc7) | ((with_reducible refine (Hfp.out _ ((hSo.below hb7).below hb9)).mono ?_); rintro e w10 ⟨A10, n10, c10, rfl, hS10, hB10⟩; have hb10 : Below w7.heap.size w7 w10 := hb9.trans (hB10.mono hb9.size); have hown10 := Wd.own_below hown9' hB10; have hz10 := hb10.size; have hc10 := (hb10.cell (p := ⟨wo.heap.size, 0, none⟩) hz7).trans hc7))
        obtain ⟨A11, n11, c11, rfl, hS11⟩ := Wd.Sl.of_own hown11
        go_wp2_with fail
        go_meet
        exact ⟨A11, n11, c11, rfl, hS11, hb7.trans (hb11.mono hb7.size)⟩
      case rest =>
        obtain ⟨A9, n9, c9, rfl, hS9, hB9⟩ := hcut
        have eb : ([(k : Int)] ++ Nm.vd m) ++ ds = Rn.block l k := by
          rw [Hds.out, Hl.out]; rfl
        rw [eb] at hS9
        have h2 := Rn.block_ge l k
        obtain ⟨ad9, rfl⟩ := some_of hS9 (by omega)
        have hV9 := hV.out.below hB9
        have HX9 := Lib.hid (HX.out.below HX.out.lt hB9)
        have hW9 : Below w.heap.size w _ := hB.trans (hB9.mono hB.size)
        have HS9 := Lib.hid hS9
        have hn9 : n9 ≤ 100000 := by rw [hS9.len]; have := Rn.block_le l k; have := Hl.out; omega
        have HB9 := Lib.hid hB9
        have HW9 := Lib.hid hW9
        clear bF hb7 hz7 hc7 hb8 Hpl hS9 h2 hV hgo hB9 hW9 cK cK1 Hfp HX hSo hB eb tok1
        rcases hV9 with ⟨hk0, rfl⟩ | ⟨hk1, ad, n4, c4, rfl, hS4⟩
        · have hnil : ∀ (w : World) (n c : Nat), (binOp .eql 33 (.slice none n c) (.slice none 0 0)).run Try.prog w = .ok (.bool true) w := fun _ _ _ => by kernel_rfl
          have hE : Rn.bi l (k + 1) = k := by rw [hk0]; exact Rn.bi_one l
          have HE := Lib.hid hE
          clear hE hk0
          go_wp2_with fail
          go_roundw
          case rel => exact ⟨k + 1, by go_num, by omega, Lib.hid (.inr ⟨by omega, ad9, n9, c9, rfl, by rw [HE.out]; exact HS9.out⟩), HX9.out, HW9.out⟩
          case measure => simp [intOf]; omega
        · have hnil : ∀ (w : World) (n c : Nat), (binOp .eql 33 (.slice (some ad) n c) (.slice none 0 0)).run Try.prog w = .ok (.bool false) w := fun _ _ _ => by kernel_rfl
          have hE : Rn.bi l (k + 1) = if n9 < n4 then k else Rn.bi l k := by
            rw [HS9.out.len, hS4.len, Rn.block_len, Rn.block_len, Rn.bi]
            by_cases q : (Rn.body l k).length < (Rn.body l (Rn.bi l k)).length
            · rw [if_pos q, if_pos (by omega)]
            · rw [if_neg q, if_neg (by omega)]
          have HE := Lib.hid hE
          have HS4 := Lib.hid hS4
          clear hE hS4
          by_cases q : n9 < n4
          · go_wp2_with fail
            go_roundw
            case rel => exact ⟨k + 1, by go_num, by omega, Lib.hid (.inr ⟨by omega, ad9, n9, c9, rfl, by rw [HE.out, if_pos q]; exact HS9.out⟩), HX9.out, HW9.out⟩
            case measure => simp [intOf]; omega
          · go_wp2_with fail
            go_roundw
            case rel => exact ⟨k + 1, by go_num, by omega, Lib.hid (.inr ⟨by omega, ad, n4, c4, rfl, by rw [HE.out, if_neg q]; exact HS4.out⟩), HX9.out, HW9.out⟩
            case measure => simp [intOf]; omega
    · obtain rfl : k = 3 := by omega
      rcases hV.out with ⟨hk0, _⟩ | ⟨_, ad, n4, c4, rfl, hS4⟩
      · omega
      · go_wp2_with fail
        go_ret2
        exact ⟨_, _, _, rfl, hS4, hB⟩

theorem encode_long (A : Option Addr) (m c : Nat) (w : World) (h : 4096 < m) (h2 : m ≤ 9223372036854775807) :
    Calls Try.prog 20 #[.slice A m c] w (Wd.Out2 w .u8 [] 2) := by
  go_enter Try.func20, Try.ntmps20
  go_wp2_with fail
  go_ret2
  exact Wd.Out2.err _ _ _ _ (Below.refl _ _)
end Rc
end Go.Proofs.Ytejhnmahmnbmkaa
