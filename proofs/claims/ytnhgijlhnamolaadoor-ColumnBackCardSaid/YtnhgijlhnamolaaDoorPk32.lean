/- What value.Put does. What the reference of layer 6 does: Put. What the reference of layer 10 does: Put. What value.Put does, with whose memory the bytes are. -/
import Derived.Lib.AppendStr
import Derived.BigRegion
import Derived.Deep.RegionHeld3
import Derived.Deep.RegionWith
import Derived.Deep.DeepCutAuto
import Derived.Laws.IdiomStrings
import Derived.Deep.RegionLaw
import Derived.Deep.QuietTactic
import Derived.BigQuiet
import Derived.Test.YtnhgijlhnamolaaDoorPk09
import Derived.Test.YtnhgijlhnamolaaDoorPk31
import Derived.Test.YtnhgijlhnamolaaDoorPk26
import Derived.Test.YtnhgijlhnamolaaDoorPk30
namespace Go.Proofs.YtnhgijlhnamolaaDoor
set_option maxRecDepth 20000
open Go.RowKit
namespace Vc
open Va Nc
theorem strCells_byts (s : ByteArray) : Lib.strCells s = (byts s).map (Value.int .u8) := by
  unfold Lib.strCells byts
  rw [List.map_map]
  rfl
/-- append(b, s...) of a text as one step of a region that draws. -/
theorem step_app_str {P : Program} (w : World) {ops : Array Oper} {o : Oper} {a : Act} {K : Act → World → Prop} {Q : Exit → Act → World → Prop} {E : Prop} (hgd : o.guard = none) (sl x : Operand) (t u : TypeId)
    (ho : o.op = .call { callee := .builtin .append, args := #[sl, x], argTypes := #[t, u] })
    (B : Nat) (e : TypeId) (i : TypeInfo) (ht : P.underlying t = some (.slice e)) (hu : P.underlying u = some .string) (hi : P.info? e = some i) (hz : i.zero = some (.int .u8 0))
    (hsize : i.size = 1) (hby : i.bytes = 1)
    (v : Value) (xs : List Int) (hs : a.eval sl = v) (hown : w.ownsRow B e 1 v xs.length (xs.map (Value.int .u8))) (s : ByteArray) (hx : a.eval x = .string s)
    (h63 : xs.length + s.size ≤ maxLen) (hbytes : xs.length + s.size ≤ 140737488355328) (hB : B ≤ w.heap.size)
    (h : ∀ v' w', w'.ownsRow B e 1 v' (xs ++ byts s).length ((xs ++ byts s).map (Value.int .u8)) → w.grownBy w' v.ownBlock → K (a.put o.dst v') w') : if Region.wanted o (yielded ops a.tmps) = true then Oper.wp P o a w K Q else E := by
  rw [if_pos (by simp [Region.wanted, hgd])]
  obtain ⟨v', w', hrun, h2, h3, _⟩ := Lib.run_append_own_string (P := P) w B t u o.type e i ht hu hi hz hsize hby v xs.length _ hown s h63 hbytes hB
  rw [strCells_byts, ← List.map_append] at h2
  unfold Oper.wp
  simp [execOp, ho, resolve, invoke, builtin, hs, hx, hrun, Result.andThen]
  refine h v' w' ?_ h3
  rw [List.length_append, byts_len]
  exact h2
theorem putLen_own (A : Option Addr) (m c : Nat) (bs : List Int) (n : Int) (w : World) (hb : Wd.Sl w .u8 A m c bs) (hm : m ≤ 10000000) (h0 : 0 ≤ n) (h1 : n ≤ 9223372036854775807) :
    Calls Tryd.prog 35 #[.slice A m c, .int .i64 n] w fun e w' => ∃ v, e = .returned v ∧ w'.ownsRow w.heap.size 5 1 v (bs ++ Nm.vd n).length ((bs ++ Nm.vd n).map (Value.int .u8)) ∧ Below w.heap.size w w' := by
  obtain ⟨rfl, hc, _, _, hr⟩ := hb
  go_enter Tryd.func35, Tryd.ntmps35
  go_wp2_with fail
  refine (putVarint_own A c bs n w hr hc hm (by omega) (by omega)).mono ?_
  rintro e w' ⟨v, rfl, hO⟩
  go_wp2_with fail
  go_ret
  exact ⟨v, rfl, hO⟩
theorem clone_own (A : Option Addr) (m c : Nat) (bs : List Int) (w : World) (hb : Wd.Sl w .u8 A m c bs) (hm : m ≤ 10000000) :
    Calls Tryd.prog 61 #[.slice A m c] w fun e w' => ∃ v, e = .returned v ∧ w'.ownsRow w.heap.size 5 1 v bs.length (bs.map (Value.int .u8)) ∧ Below w.heap.size w w' := by
  obtain ⟨i0, hi, hz0, hz1, hz2⟩ := info_parts info_u8
  obtain ⟨rfl, hc, hx, hA, hr⟩ := hb
  rcases A with _ | ad
  · obtain rfl := hA rfl
    obtain rfl := hr.none_
    have hnil : ∀ (w : World) (n c : Nat), (binOp .eql 25 (.slice none n c) (.slice none 0 0)).run Tryd.prog w = .ok (.bool true) w := fun _ _ _ => by kernel_rfl
    go_enter Tryd.func61, Tryd.ntmps61
    go_wp2
    go_ret
    exact ⟨_, rfl, World.ownsRow_nil _ _ _ _, Below.refl _ _⟩
  · have hnil : ∀ (w : World) (n c : Nat) , (binOp .eql 25 (.slice (some ad) n c) (.slice none 0 0)).run Tryd.prog w = .ok (.bool false) w := fun _ _ _ => by kernel_rfl
    go_enter Tryd.func61, Tryd.ntmps61
    go_wp2_with (at_builtin; refine Wd.wpList_app _ rfl (.tmp 5) (.tmp 6) 25 rfl w.heap.size 5 i0 _ .u8 1 Tryd.underlying25 hi hz0 hz1 hz2 rfl (.slice (some ⟨w.heap.size, 0, none⟩) 0 0) [] rfl (World.ownsRow_lit w #[] 0 (Nat.le_refl _) (by simp [maxLen]) rfl) w.heap.size _ _ c bs rfl rfl (by simp) (hr.below ((Below.refl _ _).alloc (Nat.le_refl _) _)) (by simp; omega) (by simp [maxLen]; omega) (by simp) ?_; intro v' w1 hown hbel)
    go_ret
    exact ⟨v', rfl, by simpa using hown, ((Below.refl _ _).alloc (Nat.le_refl _) _).grown hbel (by simp) (by simp [Value.ownBlock])⟩
/-- What Put answers. -/
def putE (k i : Int) (s : ByteArray) (b : Bool) : Int := if mayB k i s b then 0 else 1
def putL (bs : List Int) (k i : Int) (s : ByteArray) (b : Bool) : List Int := if mayB k i s b then bs ++ Va.put ⟨k, i, s, b⟩ else []

set_option maxHeartbeats 2000000 in
theorem Put_any (A : Option Addr) (n c : Nat) (bs : List Int) (k i : Int) (s : ByteArray) (b : Bool) (w : World) (hS : Wd.Sl w .u8 A n c bs) (hm : n ≤ 1000000) (h0 : -9223372036854775808 ≤ i) (h1 : i ≤ 9223372036854775807) :
    Calls Tryd.prog 36 #[.slice A n c, .agg #[.int .i64 k, .int .i64 i, .string s, .bool b]] w (Wd.Out2 w .u8 (putL bs k i s b) (putE k i s b)) := by
  obtain ⟨i0, hi, hz0, hz1, hz2⟩ := info_parts info_u8
  have hb0 := (Below.refl w.heap.size w).alloc (Nat.le_refl _) (.cells #[.int .i64 k, .int .i64 i, .string s, .bool b] 48)
  have v0 : Vb (w.alloc (.cells #[.int .i64 k, .int .i64 i, .string s, .bool b] 48)) w.heap.size k i s b := Wd.Bx.new w _ _
  have Cm := Lib.hid fun w => may_any k i s b w
  cases hmay : mayB k i s b
  case false =>
    unfold putL putE
    rw [hmay] at Cm ⊢
    clear hmay
    go_enter Tryd.func36, Tryd.ntmps36
    go_wp2_with fail
    refine (Cm.out _).mono ?_
    rintro e w2 ⟨rfl, hB2⟩
    go_wp2_with fail
    go_ret2
    exact Wd.Out2.err _ _ _ _ (hb0.trans (hB2.mono hb0.size))
  case true =>
    have hM := (mayB_iff k i s b).1 hmay
    rw [hmay] at Cm
    have he : putE k i s b = 0 := by unfold putE; rw [hmay]; rfl
    have hl : putL bs k i s b = bs ++ Va.put ⟨k, i, s, b⟩ := by unfold putL; rw [hmay]; rfl
    rw [he, hl]
    clear he hl hmay
    unfold May at hM
    simp only [] at hM
    rcases hM with ⟨rfl, rfl, rfl, rfl⟩ | ⟨rfl, rfl, rfl⟩ | ⟨rfl, rfl, hs, rfl⟩ | ⟨rfl, rfl, rfl⟩
    · rw [show bs ++ Va.put ⟨0, 0, ⟨#[]⟩, false⟩ = bs by simp [Va.put]]
      go_enter Tryd.func36, Tryd.ntmps36
      go_wp2_with fail
      refine (Cm.out _).mono ?_
      rintro e w2 ⟨rfl, hB2⟩
      have hb2 := hb0.trans (hB2.mono hb0.size)
      obtain ⟨⟨u0, u1, u2, u3⟩, -⟩ := four (v0.below (Wd.Bx.lt v0) hB2)
      go_wp2_with fail
      refine (clone_any A n c bs w2 (hS.below hb2) (by omega)).mono ?_
      rintro e w3 ⟨A3, n3, c3, rfl, hS3, hB3⟩
      go_wp2_with fail
      go_ret2
      exact ⟨A3, n3, c3, rfl, hS3, hb2.trans (hB3.mono hb2.size)⟩
    · rw [show bs ++ Va.put ⟨1, i, ⟨#[]⟩, false⟩ = bs ++ Nm.vd (Nm.zz i) by simp [Va.put]]
      go_enter Tryd.func36, Tryd.ntmps36
      go_wp2_with fail
      refine (Cm.out _).mono ?_
      rintro e w2 ⟨rfl, hB2⟩
      have hb2 := hb0.trans (hB2.mono hb0.size)
      obtain ⟨⟨u0, u1, u2, u3⟩, -⟩ := four (v0.below (Wd.Bx.lt v0) hB2)
      go_wp2_with fail
      refine (put_any A n c bs i w2 (hS.below hb2) (by omega) h0 h1).mono ?_
      rintro e w3 ⟨A3, n3, c3, rfl, hS3, hB3⟩
      go_wp2_with fail
      go_ret2
      exact ⟨A3, n3, c3, rfl, hS3, hb2.trans (hB3.mono hb2.size)⟩
    · rw [show bs ++ Va.put ⟨2, 0, s, false⟩ = (bs ++ Nm.vd (s.size : Int)) ++ byts s by simp [Va.put]]
      have hvl := Nm.vd_len (s.size : Int)
      have Hn := Lib.hid hS.len
      have Hp := Lib.hid fun w' (hb : Below w.heap.size w w') => putLen_own A n c bs (s.size : Int) w' (hS.below hb) (by omega) (by omega) (by omega)
      have HS := Lib.hid hS
      have hl8 : (bs ++ Nm.vd (s.size : Int)).length ≤ 1000010 := by rw [List.length_append, ← Hn.out]; omega
      obtain ⟨vs, hvs⟩ : ∃ vs, vs = bs ++ Nm.vd (s.size : Int) := ⟨_, rfl⟩
      rw [← hvs] at Hp hl8 ⊢
      clear hS hvs hvl Hn
      go_enter Tryd.func36, Tryd.ntmps36
      go_wp2_with fail
      refine (Cm.out _).mono ?_
      rintro e w2 ⟨rfl, hB2⟩
      have hb2 := hb0.trans (hB2.mono hb0.size)
      have v2 := v0.below (Wd.Bx.lt v0) hB2
      have hl2 := Wd.Bx.lt v2
      obtain ⟨⟨u0, u1, u2, u3⟩, -⟩ := four v2
      have Hv2 := Lib.hid v2
      have Hb2 := Lib.hid hb2
      clear v0 v2 hb0 hB2 Cm hb2
      go_upto_region 7 with fail
      go_region_held3 (fun w' => w'.cell? ⟨w.heap.size, 2, none⟩ = some (.string s)) (first | exact hc4 | exact hc3 | go_keep) (first | (refine step_app_str _ rfl (.tmp 23) (.tmp 25) 25 9 rfl w2.heap.size 5 i0 Tryd.underlying25 Tryd.underlying9 hi hz0 hz1 hz2 v3 vs rfl hO3 s rfl (by unfold maxLen; omega) (by omega) hb3.size ?_; intro v4 w4 hO4 hg4; have hb4 : Below w2.heap.size w2 w4 := hb3.grown hg4 hb3.size fun g hg => (hO3.lt g hg).1; have hc4 := (hb4.cell (p := ⟨w.heap.size, 2, none⟩) hl2).trans u2) | (go_at_call 35; (with_reducible refine (Hp.out _ (Hb2.out.drew)).mono ?_); rintro e w3 ⟨v3, rfl, hO3, hB3⟩; have hb3 : Below w2.heap.size w2 w3 := Wd.of_drew hB3; have hc3 := (hb3.cell (p := ⟨w.heap.size, 2, none⟩) hl2).trans u2))
      go_wp2_with fail
      go_ret2
      obtain ⟨A4, n4, c4, rfl, hS4⟩ := Wd.Sl.of_own hO4
      exact ⟨A4, n4, c4, rfl, hS4, Hb2.out.trans (hb4.mono Hb2.out.size)⟩
    · rw [show bs ++ Va.put ⟨3, 0, ⟨#[]⟩, b⟩ = bs ++ [dg b] by simp [Va.put, dg]]
      have Hn := Lib.hid hS.len
      have Hp := Lib.hid fun w' (hb : Below w.heap.size w w') => clone_own A n c bs w' (hS.below hb) (by omega)
      have hl8 : bs.length ≤ 1000000 := by rw [← Hn.out]; omega
      have Cd := Lib.hid fun w => digit_any b w
      obtain ⟨d, hd⟩ : ∃ d, d = dg b := ⟨_, rfl⟩
      rw [← hd] at Cd ⊢
      clear hS Hn hd
      go_enter Tryd.func36, Tryd.ntmps36
      go_wp2_with fail
      refine (Cm.out _).mono ?_
      rintro e w2 ⟨rfl, hB2⟩
      have hb2 := hb0.trans (hB2.mono hb0.size)
      have v2 := v0.below (Wd.Bx.lt v0) hB2
      have hl2 := Wd.Bx.lt v2
      obtain ⟨⟨u0, u1, u2, u3⟩, -⟩ := four v2
      have Hv2 := Lib.hid v2
      have Hb2 := Lib.hid hb2
      clear v0 v2 hb0 hB2 Cm hb2
      go_upto_region 9 with fail
      go_region_held3 (fun w' => w'.cell? ⟨w.heap.size, 3, none⟩ = some (.bool b)) (first | exact hc4 | exact hc3 | go_keep) (first | (refine Wd.step_app _ rfl (.tmp 30) (.tmp 34) 25 rfl w2.heap.size 5 i0 _ .u8 1 Tryd.underlying25 hi hz0 hz1 hz2 rfl v3 bs rfl (Wd.own_below hO3 ((Below.refl _ _).alloc (Nat.le_refl _) (.cells #[.int .u8 d] 5))) (w3.heap.size + 1) (some ⟨w3.heap.size, 0, none⟩) 1 1 [d] (by rfl) rfl (by simp) (Wd.Rd.lit w3 .u8 [d] 5 #[.int .u8 d] rfl) (by simp; omega) (by unfold maxLen; simp; omega) (by simp; omega) ?_; intro v4 w4 hO4 hg4; have hb4 : Below w2.heap.size w2 w4 := (hb3.alloc hb3.size (.cells #[.int .u8 d] 5)).grown hg4 (by simp; omega) fun g hg => (hO3.lt g hg).1; have hc4 := (hb4.cell (p := ⟨w.heap.size, 3, none⟩) hl2).trans u3) | (go_at_call 65; (with_reducible refine (Cd.out _).mono ?_); rintro e w5 ⟨rfl, hw5⟩; have hq5 := hw5.symm; clear hw5; subst hq5) | (go_at_call 61; (with_reducible refine (Hp.out _ (Hb2.out.drew)).mono ?_); rintro e w3 ⟨v3, rfl, hO3, hB3⟩; have hb3 : Below w2.heap.size w2 w3 := Wd.of_drew hB3; have hsz3 := hb3.size; have hc3 := (hb3.cell (p := ⟨w.heap.size, 3, none⟩) hl2).trans u3))
      go_wp2_with fail
      go_ret2
      obtain ⟨A4, n4, c4, rfl, hS4⟩ := Wd.Sl.of_own hO4
      exact ⟨A4, n4, c4, rfl, hS4, Hb2.out.trans (hb4.mono Hb2.out.size)⟩
end Vc
end Go.Proofs.YtnhgijlhnamolaaDoor
namespace Go.Proofs.YtnhgijlhnamolaaDoor
set_option maxRecDepth 20000
open Go.RowKit
namespace Vc
open Va Nc
/-- What []byte(s) leaves. -/
def bcap (w : World) (s : ByteArray) : Nat := grownCap w s.size 0 5
def bobj (w : World) (s : ByteArray) : Obj := .cells (bytesRow s (bcap w s)) 5 ((bytesRow s (bcap w s)).size, (bytesRow s (bcap w s)).size + 1)
theorem run_bytes (w : World) (s : ByteArray) : (convert 9 25 (.string s)).run Tryd.prog w = .ok (.slice (some ⟨w.heap.size, 0, none⟩) s.size (bcap w s)) (w.drew.alloc (bobj w s)) :=
  run_bytes_of_string w 9 25 5 s Tryd.underlying9 Tryd.underlying25 Tryd.underlying5
theorem bytes_sl (w : World) (s : ByteArray) (hs : s.size ≤ 1000000) : Wd.Sl (w.drew.alloc (bobj w s)) .u8 (some ⟨w.heap.size, 0, none⟩) s.size (bcap w s) (byts s) := by
  refine ⟨(byts_len s).symm, grownCap_ge w s.size 0 _, grownCap_le_maxLen w s.size 0 _ (by unfold maxLen; omega), by simp, ?_⟩
  refine (Wd.Rd.mk (b := w.heap.size) (o := 0) (by simp) fun j hj => ?_)
  rw [byts_len] at hj
  have e := heap_alloc_new w.drew (bobj w s)
  have h := cell_of_row (w.drew.alloc (bobj w s)) w.heap.size j (bytesRow s (bcap w s)) 5 _ e
  rw [Nat.zero_add, h, bytesRow_at s _ j (by simpa using hj)]
  unfold byts
  have hj' : j < s.data.size := hj
  simp [List.getD, List.getElem?_map]
  rw [Array.getElem?_eq_getElem hj']
  rfl
/-- What the reference's Put answers. -/
def putR (k i : Int) (s : ByteArray) (b : Bool) : List Int := if mayB k i s b then Va.put ⟨k, i, s, b⟩ else []

/-- A slice of numbers in memory that is new since w, and an error's number. -/
def Out2N (w : World) (ys : List Int) (er : Int) (e : Ending) (w' : World) : Prop :=
  ∃ A n c, e = .returned (.tuple #[.slice A n c, .int .i64 er]) ∧ Wd.Sl w' .u8 A n c ys ∧ Below w.heap.size w w' ∧ ∀ a, A = some a → w.heap.size ≤ a.block
theorem own_new {w : World} {B B' : Nat} {e : TypeId} {size n m c : Nat} {A : Option Addr} {xs : List Value} (h : w.ownsRow B e size (.slice A m c) n xs) (hB : B' ≤ B) : ∀ a, A = some a → B' ≤ a.block := by
  rcases h.2 with ⟨h0, _⟩ | ⟨g, cap, cur, h1, h2, _⟩
  · intro a ha
    simp only [Value.slice.injEq] at h0
    rw [h0.1] at ha
    cases ha
  · intro a ha
    simp only [Value.slice.injEq] at h1
    rw [h1.1] at ha
    cases ha
    exact Nat.le_trans hB h2
end Vc
end Go.Proofs.YtnhgijlhnamolaaDoor
namespace Go.Proofs.YtnhgijlhnamolaaDoor
set_option maxRecDepth 20000
open Go.RowKit
namespace Cx
open Va (Vl May ord null)
open Sc (tr tr_yes tr_no tr_iff)
open Co
theorem info_y : (Tryd.prog.info? 5).map (fun i => (i.zero, i.size, i.bytes)) = some (some (.int .u8 0), 1, 1) := by kernel_rfl
theorem putD_next (D : List Vl) (k : Nat) (h : k < D.length) : putD (D.take (k + 1)) = putD (D.take k) ++ ((D.getD k default).kind :: Va.put (D.getD k default)) := by
  unfold putD
  rw [List.take_succ_eq_append_getElem h, List.flatMap_append]
  simp [List.getD, h]
theorem putD_len {D : List Vl} (h : ∀ v ∈ D, May v) : (putD D).length ≤ 75 * D.length := by
  induction D with
  | nil => simp [putD]
  | cons a D ih =>
    have h1 := Va.put_len (h a (by simp))
    have h2 := ih fun v hv => h v (by simp [hv])
    unfold putD at *
    simp only [List.flatMap_cons, List.length_append, List.length_cons]
    omega
theorem may_kind {v : Vl} (h : May v) : 0 ≤ v.kind ∧ v.kind ≤ 3 := by
  unfold May at h
  omega
theorem sl_grown {w w' : World} {k : IntKind} {A : Option Addr} {n c : Nat} {ys : List Int} {row : Option Nat} (h : Wd.Sl w k A n c ys) (hg : w.grownBy w' row) (hne : ∀ a, A = some a → some a.block ≠ row) : Wd.Sl w' k A n c ys :=
  ⟨h.len, h.cap, h.max, h.nil, fun j hj => by
    obtain ⟨b, o, e, hlt, hc⟩ := h.rd j hj
    exact ⟨b, o, e, Nat.lt_of_lt_of_le hlt hg.size, (World.cell?_of_block (hg.block b hlt (hne _ e))).trans hc⟩⟩
end Cx
end Go.Proofs.YtnhgijlhnamolaaDoor
namespace Go.Proofs.YtnhgijlhnamolaaDoor
set_option maxRecDepth 20000
open Go.RowKit
namespace Vc
open Va Nc
theorem put_own (A : Option Addr) (m c : Nat) (bs : List Int) (n : Int) (w : World) (hb : Wd.Sl w .u8 A m c bs) (hm : m ≤ 10000000) (h0 : -9223372036854775808 ≤ n) (h1 : n ≤ 9223372036854775807) :
    Calls Tryd.prog 64 #[.slice A m c, .int .i64 n] w fun e w' => ∃ v, e = .returned v ∧ w'.ownsRow w.heap.size 5 1 v (bs ++ Nm.vd (Nm.zz n)).length ((bs ++ Nm.vd (Nm.zz n)).map (Value.int .u8)) ∧ Below w.heap.size w w' := by
  have hz0 := Nm.zz_lo n
  have hz1 := Nm.zz_hi n h0 h1
  obtain ⟨rfl, hc, _, _, hr⟩ := hb
  have Hp := Lib.hid (putVarint_own A c bs (Nm.zz n) w hr hc hm hz0 hz1)
  go_enter Tryd.func64, Tryd.ntmps64
  go_wp2_with fail
  refine (zigzag_any n w h0 h1).mono ?_
  rintro e w' ⟨rfl, rfl⟩
  go_wp2_with fail
  refine Hp.out.mono ?_
  rintro e w' ⟨v, rfl, hO⟩
  go_wp2_with fail
  go_ret
  exact ⟨v, rfl, hO⟩
/-- An answer of bytes of the call's own. -/
def OutO (w : World) (L : List Int) (e : Ending) (w' : World) : Prop :=
  ∃ v, e = .returned (.tuple #[v, .int .i64 0]) ∧ w'.ownsRow w.heap.size 5 1 v L.length (L.map (Value.int .u8)) ∧ Below w.heap.size w w'
set_option maxHeartbeats 2000000 in
theorem Put_own (A : Option Addr) (n c : Nat) (bs : List Int) (k i : Int) (s : ByteArray) (b : Bool) (w : World) (hS : Wd.Sl w .u8 A n c bs) (hm : n ≤ 1000000) (h0 : -9223372036854775808 ≤ i) (h1 : i ≤ 9223372036854775807) (hM : May ⟨k, i, s, b⟩) :
    Calls Tryd.prog 36 #[.slice A n c, .agg #[.int .i64 k, .int .i64 i, .string s, .bool b]] w (OutO w (bs ++ Va.put ⟨k, i, s, b⟩)) := by
  obtain ⟨i0, hi, hz0, hz1, hz2⟩ := info_parts info_u8
  have hb0 := (Below.refl w.heap.size w).alloc (Nat.le_refl _) (.cells #[.int .i64 k, .int .i64 i, .string s, .bool b] 48)
  have v0 : Vb (w.alloc (.cells #[.int .i64 k, .int .i64 i, .string s, .bool b] 48)) w.heap.size k i s b := Wd.Bx.new w _ _
  have Cm := Lib.hid fun w => may_any k i s b w
  rw [(mayB_iff k i s b).2 hM] at Cm
  unfold May at hM
  simp only [] at hM
  rcases hM with ⟨rfl, rfl, rfl, rfl⟩ | ⟨rfl, rfl, rfl⟩ | ⟨rfl, rfl, hs, rfl⟩ | ⟨rfl, rfl, rfl⟩
  · rw [show bs ++ Va.put ⟨0, 0, ⟨#[]⟩, false⟩ = bs by simp [Va.put]]
    go_enter Tryd.func36, Tryd.ntmps36
    go_wp2_with fail
    refine (Cm.out _).mono ?_
    rintro e w2 ⟨rfl, hB2⟩
    have hb2 := hb0.trans (hB2.mono hb0.size)
    obtain ⟨⟨u0, u1, u2, u3⟩, -⟩ := four (v0.below (Wd.Bx.lt v0) hB2)
    go_wp2_with fail
    refine (clone_own A n c bs w2 (hS.below hb2) (by omega)).mono ?_
    rintro e w3 ⟨v3, rfl, hO3, hB3⟩
    go_wp2_with fail
    go_ret2
    exact ⟨v3, rfl, Wd.own_down hO3 hb2.size, hb2.trans (hB3.mono hb2.size)⟩
  · rw [show bs ++ Va.put ⟨1, i, ⟨#[]⟩, false⟩ = bs ++ Nm.vd (Nm.zz i) by simp [Va.put]]
    go_enter Tryd.func36, Tryd.ntmps36
    go_wp2_with fail
    refine (Cm.out _).mono ?_
    rintro e w2 ⟨rfl, hB2⟩
    have hb2 := hb0.trans (hB2.mono hb0.size)
    obtain ⟨⟨u0, u1, u2, u3⟩, -⟩ := four (v0.below (Wd.Bx.lt v0) hB2)
    go_wp2_with fail
    refine (put_own A n c bs i w2 (hS.below hb2) (by omega) h0 h1).mono ?_
    rintro e w3 ⟨v3, rfl, hO3, hB3⟩
    go_wp2_with fail
    go_ret2
    exact ⟨v3, rfl, Wd.own_down hO3 hb2.size, hb2.trans (hB3.mono hb2.size)⟩
  · rw [show bs ++ Va.put ⟨2, 0, s, false⟩ = (bs ++ Nm.vd (s.size : Int)) ++ byts s by simp [Va.put]]
    have hvl := Nm.vd_len (s.size : Int)
    have Hn := Lib.hid hS.len
    have Hp := Lib.hid fun w' (hb : Below w.heap.size w w') => putLen_own A n c bs (s.size : Int) w' (hS.below hb) (by omega) (by omega) (by omega)
    have HS := Lib.hid hS
    have hl8 : (bs ++ Nm.vd (s.size : Int)).length ≤ 1000010 := by rw [List.length_append, ← Hn.out]; omega
    obtain ⟨vs, hvs⟩ : ∃ vs, vs = bs ++ Nm.vd (s.size : Int) := ⟨_, rfl⟩
    rw [← hvs] at Hp hl8 ⊢
    clear hS hvs hvl Hn
    go_enter Tryd.func36, Tryd.ntmps36
    go_wp2_with fail
    refine (Cm.out _).mono ?_
    rintro e w2 ⟨rfl, hB2⟩
    have hb2 := hb0.trans (hB2.mono hb0.size)
    have v2 := v0.below (Wd.Bx.lt v0) hB2
    have hl2 := Wd.Bx.lt v2
    obtain ⟨⟨u0, u1, u2, u3⟩, -⟩ := four v2
    have Hv2 := Lib.hid v2
    have Hb2 := Lib.hid hb2
    clear v0 v2 hb0 hB2 Cm hb2
    go_upto_region 7 with fail
    go_region_held3 (fun w' => w'.cell? ⟨w.heap.size, 2, none⟩ = some (.string s)) (first | exact hc4 | exact hc3 | go_keep) (first | (refine step_app_str _ rfl (.tmp 23) (.tmp 25) 25 9 rfl w2.heap.size 5 i0 Tryd.underlying25 Tryd.underlying9 hi hz0 hz1 hz2 v3 vs rfl hO3 s rfl (by unfold maxLen; omega) (by omega) hb3.size ?_; intro v4 w4 hO4 hg4; have hb4 : Below w2.heap.size w2 w4 := hb3.grown hg4 hb3.size fun g hg => (hO3.lt g hg).1; have hc4 := (hb4.cell (p := ⟨w.heap.size, 2, none⟩) hl2).trans u2) | (go_at_call 35; (with_reducible refine (Hp.out _ (Hb2.out.drew)).mono ?_); rintro e w3 ⟨v3, rfl, hO3, hB3⟩; have hb3 : Below w2.heap.size w2 w3 := Wd.of_drew hB3; have hc3 := (hb3.cell (p := ⟨w.heap.size, 2, none⟩) hl2).trans u2))
    go_wp2_with fail
    go_ret2
    exact ⟨v4, rfl, Wd.own_down hO4 Hb2.out.size, Hb2.out.trans (hb4.mono Hb2.out.size)⟩
  · rw [show bs ++ Va.put ⟨3, 0, ⟨#[]⟩, b⟩ = bs ++ [dg b] by simp [Va.put, dg]]
    have Hn := Lib.hid hS.len
    have Hp := Lib.hid fun w' (hb : Below w.heap.size w w') => clone_own A n c bs w' (hS.below hb) (by omega)
    have hl8 : bs.length ≤ 1000000 := by rw [← Hn.out]; omega
    have Cd := Lib.hid fun w => digit_any b w
    obtain ⟨d, hd⟩ : ∃ d, d = dg b := ⟨_, rfl⟩
    rw [← hd] at Cd ⊢
    clear hS Hn hd
    go_enter Tryd.func36, Tryd.ntmps36
    go_wp2_with fail
    refine (Cm.out _).mono ?_
    rintro e w2 ⟨rfl, hB2⟩
    have hb2 := hb0.trans (hB2.mono hb0.size)
    have v2 := v0.below (Wd.Bx.lt v0) hB2
    have hl2 := Wd.Bx.lt v2
    obtain ⟨⟨u0, u1, u2, u3⟩, -⟩ := four v2
    have Hv2 := Lib.hid v2
    have Hb2 := Lib.hid hb2
    clear v0 v2 hb0 hB2 Cm hb2
    go_upto_region 9 with fail
    go_region_held3 (fun w' => w'.cell? ⟨w.heap.size, 3, none⟩ = some (.bool b)) (first | exact hc4 | exact hc3 | go_keep) (first | (refine Wd.step_app _ rfl (.tmp 30) (.tmp 34) 25 rfl w2.heap.size 5 i0 _ .u8 1 Tryd.underlying25 hi hz0 hz1 hz2 rfl v3 bs rfl (Wd.own_below hO3 ((Below.refl _ _).alloc (Nat.le_refl _) (.cells #[.int .u8 d] 5))) (w3.heap.size + 1) (some ⟨w3.heap.size, 0, none⟩) 1 1 [d] (by rfl) rfl (by simp) (Wd.Rd.lit w3 .u8 [d] 5 #[.int .u8 d] rfl) (by simp; omega) (by unfold maxLen; simp; omega) (by simp; omega) ?_; intro v4 w4 hO4 hg4; have hb4 : Below w2.heap.size w2 w4 := (hb3.alloc hb3.size (.cells #[.int .u8 d] 5)).grown hg4 (by simp; omega) fun g hg => (hO3.lt g hg).1; have hc4 := (hb4.cell (p := ⟨w.heap.size, 3, none⟩) hl2).trans u3) | (go_at_call 65; (with_reducible refine (Cd.out _).mono ?_); rintro e w5 ⟨rfl, hw5⟩; have hq5 := hw5.symm; clear hw5; subst hq5) | (go_at_call 61; (with_reducible refine (Hp.out _ (Hb2.out.drew)).mono ?_); rintro e w3 ⟨v3, rfl, hO3, hB3⟩; have hb3 : Below w2.heap.size w2 w3 := Wd.of_drew hB3; have hsz3 := hb3.size; have hc3 := (hb3.cell (p := ⟨w.heap.size, 3, none⟩) hl2).trans u3))
    go_wp2_with fail
    go_ret2
    exact ⟨v4, rfl, Wd.own_down hO4 Hb2.out.size, Hb2.out.trans (hb4.mono Hb2.out.size)⟩
end Vc
end Go.Proofs.YtnhgijlhnamolaaDoor
