/- The walk of the statement DictKeeps of layer 8. -/
import Derived.Test.YtiokajaadmfohaaDcLawB
namespace Go.Proofs.Ytiokajaadmfohaa
set_option maxRecDepth 20000
open Go.RowKit Go.Maps
namespace Dx
open Va (Vl May ord null)
open Sc (tr tr_yes tr_no tr_iff)
open Dc
/-- append of one integer, and where the outcome lies. -/
theorem wpList_appI_at (w : World) {ops : Array Oper} {rest : List Oper} {o : Oper} {a : Act} {Q : Exit → Act → World → Prop} (hgd : o.guard = none) (s x : Operand)
    (ho : o.op = .call { callee := .builtin .append, args := #[s, x], argTypes := #[40, 40] })
    (B : Nat) (v : Value) (L : List Int) (hs : a.eval s = v) (hown : w.ownsRow B 3 1 v L.length (L.map (Value.int .i64))) (ad : Addr) (y : Int) (hx : a.eval x = .slice (some ad) 1 1) (hc : w.cell? ad = some (.int .i64 y)) (hL : L.length ≤ 1000000) (hB : B ≤ w.heap.size)
    (h : ∀ v' w', w'.ownsRow B 3 1 v' (L ++ [y]).length ((L ++ [y]).map (Value.int .i64)) → w.grownBy w' v.ownBlock → (v'.ownBlock = v.ownBlock ∨ v'.ownBlock = some w.heap.size) → wpList Try.prog ops Q rest (a.put o.dst v') w') : wpList Try.prog ops Q (o :: rest) a w := by
  obtain ⟨i0, hi, hz0, hz1, hz2⟩ := info_parts info_i
  refine wpList_plain hgd fun K hK => ?_
  obtain ⟨v', w', hrun, h2, h3, _, h5⟩ := run_append_own_at (P := Try.prog) w B 40 o.type 3 i0 _ 1 8 Try.underlying40 hi hz0 hz1 hz2 rfl (by decide) v L.length _ hown ad 1 1 [.int .i64 y] rfl (fun j u hu => by
    have hj : j = 0 := by have := (List.getElem?_eq_some_iff.1 hu).1; simpa using this
    subst hj
    have : u = .int .i64 y := by simpa using hu.symm
    rw [this]
    simpa [Addr.add] using hc) (fun u hu => by rw [List.mem_singleton.1 hu]; rfl) (by unfold maxLen; omega) (by omega) hB
  unfold Oper.wp
  simp [execOp, ho, resolve, invoke, builtin, hs, hx, hrun, Result.andThen]
  exact hK _ _ (h v' w' (by rw [List.length_append, List.map_append]; exact h2) h3 h5)
/-- The numbers that were given, -1 for an error. -/
noncomputable def num (L : List Vl) (k : Int) (v : Vl) : Int := if (add L k v).2.2 = 0 then (add L k v).2.1 else -1
noncomputable def nums (k : Int) (vs : List Vl) : Nat → List Int
  | 0 => []
  | n + 1 => nums k vs n ++ [num (adds k [] (vs.take n)) k (vs.getD n default)]
theorem nums_len (k : Int) (vs : List Vl) : ∀ n, (nums k vs n).length = n
  | 0 => rfl
  | n + 1 => by rw [nums, List.length_append, nums_len k vs n]; rfl
theorem nums_at (k : Int) (vs : List Vl) : ∀ (n i : Nat), i < n → (nums k vs n).getD i 0 = num (adds k [] (vs.take i)) k (vs.getD i default)
  | 0, _, h => by omega
  | n + 1, i, h => by
    rw [nums]
    by_cases q : i < n
    · rw [List.getD_eq_getElem?_getD, List.getElem?_append_left (by rw [nums_len]; exact q), ← List.getD_eq_getElem?_getD]
      exact nums_at k vs n i q
    · obtain rfl : i = n := by omega
      rw [List.getD_eq_getElem?_getD, List.getElem?_append_right (by rw [nums_len]; exact Nat.le_refl _), nums_len]
      simp
/-- A number that was given stands for its value, whatever was added later. -/
theorem num_says {k : Int} {vs : List Vl} {i : Nat} (hi : i < vs.length) : num (adds k [] (vs.take i)) k (vs.getD i default) = -1 ∨ ∃ p : Nat, num (adds k [] (vs.take i)) k (vs.getD i default) = (p : Int) ∧ (adds k [] vs)[p]? = some (vs.getD i default) := by
  unfold num
  by_cases h : (add (adds k [] (vs.take i)) k (vs.getD i default)).2.2 = 0
  · obtain ⟨p, h1, h2⟩ := add_num h
    refine .inr ⟨p, by rw [if_pos h, h1], ?_⟩
    have hpre : adds k [] (vs.take (i + 1)) <+: adds k [] vs := by
      have e := adds_app k [] (vs.take (i + 1)) (vs.drop (i + 1))
      rw [List.take_append_drop] at e
      rw [e]
      exact adds_pre k _ _
    rw [adds_take hi] at hpre
    obtain ⟨t, ht⟩ := hpre
    have hp := (List.getElem?_eq_some_iff.1 h2).1
    rw [← ht, List.getElem?_append_left hp]
    exact h2
  · exact .inl (if_neg h)
/-- The dictionary and the row of numbers, apart. -/
structure Kp (D : World → Nat → List Vl → Int → (Nat → Prop) → Prop) (wo w : World) (d : Nat) (lm : Int) (L : List Vl) (G : Nat → Prop) (nv : Value) (xs : List Int) : Prop where
  dic : D w d L lm G
  ge : ∀ g, G g → wo.heap.size ≤ g
  own : w.ownsRow wo.heap.size 3 1 nv xs.length (xs.map (Value.int .i64))
  out : ∀ x, nv.ownBlock = some x → ¬ G x
  bel : Below wo.heap.size wo w
variable {D : World → Nat → List Vl → Int → (Nat → Prop) → Prop}
theorem Kp.turn (_ : Ifc D) {wo w w' : World} {d : Nat} {lm : Int} {L L' : List Vl} {G G' : Nat → Prop} {nv : Value} {xs : List Int} (h : Kp D wo w d lm L G nv xs) (hm : Wd.Mv G w w') (hd : D w' d L' lm G') (hg : ∀ g, G' g → Wd.Gr G w w' g) : Kp D wo w' d lm L' G' nv xs :=
  ⟨hd, fun g x => Wd.Gr.ge h.ge h.bel.size g (hg g x), Wd.own_keep h.own fun x hx => hm.keep x (Wd.own_lt h.own hx).1 (h.out x hx), fun x hx y => by
    rcases hg x y with z | z
    · exact h.out x hx z
    · have := (Wd.own_lt h.own hx).1; omega, h.bel.trans (hm.below h.ge h.bel.size)⟩
theorem Kp.below (I : Ifc D) {wo w w' : World} {d : Nat} {lm : Int} {L : List Vl} {G : Nat → Prop} {nv : Value} {xs : List Int} (h : Kp D wo w d lm L G nv xs) (hb : Below w.heap.size w w') : Kp D wo w' d lm L G nv xs :=
  ⟨I.below h.dic hb, h.ge, Wd.own_keep h.own fun x hx => hb.block x (Wd.own_lt h.own hx).1, h.out, h.bel.trans (hb.mono h.bel.size)⟩
/-- A number is added to the row. -/
theorem Kp.push (I : Ifc D) {wo w w' : World} {d : Nat} {lm : Int} {L : List Vl} {G : Nat → Prop} {nv nv' : Value} {xs xs' : List Int} (h : Kp D wo w d lm L G nv xs) (ho : w'.ownsRow wo.heap.size 3 1 nv' xs'.length (xs'.map (Value.int .i64))) (hg : w.grownBy w' nv.ownBlock) (hl : nv'.ownBlock = nv.ownBlock ∨ nv'.ownBlock = some w.heap.size) : Kp D wo w' d lm L G nv' xs' :=
  ⟨I.keep h.dic hg.size fun g hx => hg.block g (I.lt h.dic g hx) (fun e => h.out g e.symm hx), h.ge, ho, fun x hx y => by
    rcases hl with z | z
    · rw [z] at hx; exact h.out x hx y
    · rw [z] at hx
      have := I.lt h.dic x y
      have : w.heap.size = x := Option.some.inj hx
      omega, h.bel.grown hg h.bel.size fun g hx => (Wd.own_lt h.own hx).2.1⟩
end Dx
namespace Lw
open Dx Dc
open Va (Vl May ord null)
open Sc (tr tr_yes tr_no tr_iff)
variable {D : World → Nat → List Vl → Int → (Nat → Prop) → Prop}
set_option maxHeartbeats 16000000 in
theorem dictKeeps_walk (I : Ifc D) (J : IfcS) (lm : Int) (R : Option Addr) (m d : Nat) (vs : List Vl) (w : World) (_l0 : -9223372036854775808 ≤ lm) (_l1 : lm ≤ 9223372036854775807) (hV : Wd.Vs w R m d vs) :
    Calls Try.prog 5 #[.int .i64 lm, .slice R m d] w fun e w' => e = .returned (.bool true) ∧ Below w.heap.size w w' := by
  have HV := Lib.hid hV
  have Hm := Lib.hid hV.len
  have hcap := hV.cap
  clear hV
  obtain ⟨f1, hf1⟩ : ∃ f, f = tr (FewV vs) := ⟨_, rfl⟩
  have Hf1 := Lib.hid hf1
  clear hf1
  go_enter Try.func5, Try.ntmps5
  go_wp2_with fail
  refine (awake_any I w).mono ?_
  rintro e w1 ⟨rfl, hB1⟩
  have HV1 := Lib.hid (HV.out.below hB1)
  have C1 := few_any R m d vs w1 HV1.out
  rw [← Hf1.out] at C1
  have C1 := Lib.hid C1
  clear HV
  go_wp2_with fail
  refine C1.out.mono ?_
  rintro e w1' ⟨rfl, rfl⟩
  clear C1
  cases f1
  · go_wp2_with fail
    go_ret
    exact ⟨rfl, hB1⟩
  have hF1 : FewV vs := tr_iff.1 Hf1.out.symm
  have Hok := Lib.hid (okv_few HV1.out hF1)
  have hm100 : m ≤ 100 := by rw [Hm.out]; exact hF1.1
  have Hdis := Lib.hid fun n => dis_adds (k := lm) (vs.take n) (dis_nil lm)
  have Hall := Lib.hid fun n => adds_all (P := Okv) (k := lm) (l := []) (vs.take n) (by simp) fun x hx => Hok.out x (List.mem_of_mem_take hx)
  clear hF1 Hf1
  go_wp2_with fail
  refine (I.new_ lm w1').mono ?_
  rintro e w3 ⟨dd, G3, rfl, hD3, hB3, hG3⟩
  have I0 := Lib.hid (show Kp D w1' w3 dd lm (adds lm [] (vs.take 0)) G3 (.slice none 0 0) (nums lm vs 0) from ⟨by rw [List.take_zero]; exact hD3, hG3, World.ownsRow_nil _ _ _ _, fun x h => (by simp [Value.ownBlock] at h), hB3⟩)
  clear hD3 hB3 hG3
  go_wp2
  go_loopw [8, 9] (fun rv j wr => ∃ (n : Nat) (G : Nat → Prop), j = .int .i64 n ∧ n ≤ m ∧ Hid (Kp D w1' wr dd lm (adds lm [] (vs.take n)) G rv (nums lm vs n))) (fun _ j _ => m - (intOf j).toNat)
  case atStart => exact ⟨0, G3, rfl, Nat.zero_le _, I0⟩
  case round =>
    obtain ⟨n, G, rfl, hn, hB⟩ := hrel
    by_cases hlt : n < m
    · have hnl : n < vs.length := by rw [← Hm.out]; exact hlt
      obtain ⟨e, f, hR, heB, d0, d1, d2, d3, hv1⟩ := HV1.out.cells (j := n) hnl rfl
      subst hR
      have Z := Lib.hid fun w' (hb : Below w1'.heap.size w1' w') => (⟨(hb.cell (p := ⟨e, f + n * 4, none⟩) heB).trans d0, (hb.cell (p := ⟨e, f + n * 4 + 1, none⟩) heB).trans d1, (hb.cell (p := ⟨e, f + n * 4 + 2, none⟩) heB).trans d2, (hb.cell (p := ⟨e, f + n * 4 + 3, none⟩) heB).trans d3⟩ : _ ∧ _ ∧ _ ∧ _)
      have hokx := Hok.out _ (getD_mem hnl)
      have hstep := adds_take (k := lm) hnl
      have hdis := Hdis.out n
      have hall := Hall.out n
      have hnx : nums lm vs (n + 1) = nums lm vs n ++ [num (adds lm [] (vs.take n)) lm (vs.getD n default)] := rfl
      have hnlen := nums_len lm vs n
      obtain ⟨x, hx⟩ : ∃ x, x = vs.getD n default := ⟨_, rfl⟩
      rw [← hx] at Z hokx hstep hnx
      obtain ⟨L, hL⟩ : ∃ L, L = adds lm [] (vs.take n) := ⟨_, rfl⟩
      rw [← hL] at hstep hdis hall hB hnx
      obtain ⟨xs, hxs⟩ : ∃ xs, xs = nums lm vs n := ⟨_, rfl⟩
      rw [← hxs] at hB hnx hnlen
      have HB := Lib.hid hB.out
      have Ca := I.add_ x HB.out.dic hdis hall hokx
      unfold ag at Ca
      unfold num at hnx
      obtain ⟨L2, a2, a3, ha⟩ : ∃ L2 a2 a3, add L lm x = (L2, a2, a3) := ⟨_, _, _, rfl⟩
      rw [ha] at Ca hnx hstep
      simp only [] at hnx
      have hxl : xs.length ≤ 1000000 := by omega
      have Ca' := Lib.hid Ca
      have Hstep := Lib.hid hstep
      have Hnx := Lib.hid hnx
      obtain ⟨z0, z1, z2, z3⟩ := Z.out wr HB.out.bel
      clear d0 d1 d2 d3 hv1 hx hokx hstep hdis hall hL hB Ca ha hnl hnx hxs hnlen
      go_wp2_with fail
      refine Ca'.out.mono ?_
      rintro q' w4 ⟨rfl, hM4, G4, hD4, hG4⟩
      have HB4 := Lib.hid (HB.out.turn I hM4 hD4 hG4)
      clear z0 z1 z2 z3 hM4 hD4 hG4 Ca' HB
      by_cases he : a3 = 0
      · subst he
        have hO4 := HB4.out.own.alloc (.cells #[.int .i64 a2] 3)
        have hbA := (Below.refl w4.heap.size w4).alloc (Nat.le_refl _) (.cells #[.int .i64 a2] 3)
        have HA := Lib.hid (HB4.out.below I hbA)
        have hzA := HA.out.bel.size
        have hcA : (w4.alloc (.cells #[.int .i64 a2] 3)).cell? ⟨w4.heap.size, 0, none⟩ = some (.int .i64 a2) := by simp
        go_wp2_with (at_builtin; refine wpList_appI_at _ rfl (.tmp 50) (.tmp 52) rfl w1'.heap.size _ xs rfl hO4 ⟨w4.heap.size, 0, none⟩ a2 rfl hcA hxl hzA ?_; intro v6 w6 hO6 hg6 hl6; have HB6 := Lib.hid (HA.out.push I hO6 hg6 hl6))
        go_roundw
        case rel => exact ⟨n + 1, G4, by go_num, by omega, by rw [Hstep.out, Hnx.out]; exact HB6⟩
        case measure => simp [intOf]; omega
      · have he' : (a3 != 0) = true := by simpa using he
        have Hnx2 := Lib.hid (Hnx.out.trans (by rw [if_neg he]))
        have hO4 := HB4.out.own.alloc (.cells #[.int .i64 (-1)] 3)
        have hbA := (Below.refl w4.heap.size w4).alloc (Nat.le_refl _) (.cells #[.int .i64 (-1)] 3)
        have HA := Lib.hid (HB4.out.below I hbA)
        have hzA := HA.out.bel.size
        have hcA : (w4.alloc (.cells #[.int .i64 (-1)] 3)).cell? ⟨w4.heap.size, 0, none⟩ = some (.int .i64 (-1)) := by simp
        clear he
        go_wp2_with (at_builtin; refine wpList_appI_at _ rfl (.tmp 50) (.tmp 52) rfl w1'.heap.size _ xs rfl hO4 ⟨w4.heap.size, 0, none⟩ (-1) rfl hcA hxl hzA ?_; intro v6 w6 hO6 hg6 hl6; have HB6 := Lib.hid (HA.out.push I hO6 hg6 hl6))
        go_roundw
        case rel => exact ⟨n + 1, G4, by go_num, by omega, by rw [Hstep.out, Hnx2.out]; exact HB6⟩
        case measure => simp [intOf]; omega
    · have hkI : ¬ (n : Int) < m := by omega
      have hnm : n = m := by omega
      have hta : vs.take n = vs := List.take_of_length_le (by rw [hnm, Hm.out]; exact Nat.le_refl _)
      have hdis := Hdis.out n
      have hall := Hall.out n
      have hb := hB.out
      rw [hta] at hdis hall hb
      rw [hnm] at hb
      have hsays := fun i hi => num_says (k := lm) (vs := vs) (i := i) hi
      have hnat := fun i hi => nums_at lm vs m i hi
      have hnl := nums_len lm vs m
      obtain ⟨L, hL⟩ : ∃ L, L = adds lm [] vs := ⟨_, rfl⟩
      rw [← hL] at hdis hall hb
      simp only [← hL] at hsays
      obtain ⟨xs, hxs⟩ : ∃ xs, xs = nums lm vs m := ⟨_, rfl⟩
      rw [← hxs] at hb hnl
      simp only [← hxs] at hnat
      have hSn := Wd.Sl.of_own hb.own
      obtain ⟨An, nn, cn, rfl, hSn⟩ := hSn
      have hnn : nn = m := by rw [hSn.len, hnl]
      have hcn := hSn.cap
      subst hnn
      have HB := Lib.hid hb
      have Hd := Lib.hid hdis
      have Ha := Lib.hid hall
      have Hsays := Lib.hid hsays
      have Hnat := Lib.hid hnat
      have HSn := Lib.hid hSn
      have Hxl := Lib.hid hnl
      have Hris := Lib.hid (srt_ris hdis.may hdis.nd)
      have Hsok := Lib.hid fun x (hx : x ∈ srt L) => hall x ((srt_mem L x).1 hx)
      have Cs := Lib.hid (I.sorted_ hb.dic hdis hall)
      have hL100 : L.length ≤ 4096 := by have := hdis.len; have := lim_bd lm; omega
      clear hta hdis hall hb hsays hnat hnl hL hxs hSn hnm hB
      go_wp2_with fail
      refine Cs.out.mono ?_
      rintro e w4 ⟨A4, n4, c4, B4, m4, d4, rfl, hV4, hT4, hB4⟩
      have HB4 := Lib.hid (HB.out.below I hB4)
      have HSn4 := Lib.hid (HSn.out.below hB4)
      have hn4 : n4 = L.length := by rw [hV4.len, srt_len]
      have hm4 : m4 = L.length := by rw [hT4.len, tos_len]
      have hc4 := hV4.cap
      have hd4 := hT4.cap
      have HV4 := Lib.hid hV4
      have HT4 := Lib.hid hT4
      have Hl4 := Lib.hid hn4
      subst hm4
      subst hn4
      clear hV4 hT4 hB4 HB HSn Cs Hl4
      have Cl := Lib.hid fun w h => I.len_ (w := w) (d := dd) (L := L) (k := lm) (G := G) h Hd.out
      go_wp2_with fail
      refine (Cl.out w4 HB4.out.dic).mono ?_
      rintro e w5 ⟨rfl, hB5⟩
      have HB5 := Lib.hid (HB4.out.below I hB5)
      go_wp2_with fail
      refine (Cl.out w5 HB5.out.dic).mono ?_
      rintro e w6 ⟨rfl, hB6⟩
      have HB6 := Lib.hid (HB5.out.below I hB6)
      have hB46 := hB5.trans (hB6.mono hB5.size)
      have Cr := J.rises_ A4 L.length c4 (srt L) w6 (HV4.out.below hB46) Hsok.out
      rw [tr_yes Hris.out] at Cr
      have Cr := Lib.hid Cr
      go_wp2_with fail
      refine Cr.out.mono ?_
      rintro e w7 ⟨rfl, hB7⟩
      have hB47 := hB46.trans (hB7.mono hB46.size)
      have HB7 := Lib.hid (HB6.out.below I hB7)
      have HV7 := Lib.hid (HV4.out.below hB47)
      have HT7 := Lib.hid (HT4.out.below hB47)
      have HSn7 := Lib.hid (HSn4.out.below hB47)
      have HL7 := Lib.hid (HV1.out.below HB7.out.bel)
      have hbel7 := HB7.out.bel
      clear hB5 hB6 hB7 hB46 hB47 HB4 HB5 HB6 HV4 HT4 HSn4 Cr Cl
      have hgt : Try.prog.eqGuardType Try.prog.depth 24 = false := by kernel_rfl
      go_wp2
      go_loopw [14] (fun j wr => ∃ q : Nat, j = .int .i64 q ∧ q ≤ nn ∧ Below w7.heap.size w7 wr) (fun j _ => nn - (intOf j).toNat)
      case atStart => exact ⟨0, rfl, Nat.zero_le _, Below.refl _ _⟩
      case round =>
        obtain ⟨q, rfl, hq, hB⟩ := hrel
        by_cases hlt : q < nn
        · have hql : q < vs.length := by rw [← Hm.out]; exact hlt
          obtain ⟨bn, on, rfl, hbn, hcn0⟩ := HSn7.out.rd q (by rw [Hxl.out]; exact hlt)
          have hnum := Hnat.out q hlt
          have hy := Hsays.out q hql
          rw [← hnum] at hy
          obtain ⟨y, hyy⟩ : ∃ y, y = xs.getD q 0 := ⟨_, rfl⟩
          rw [← hyy] at hcn0 hy
          have Zn := Lib.hid fun w' (hb : Below w7.heap.size w7 w') => (hb.cell (p := ⟨bn, on + q, none⟩) hbn).trans hcn0
          have zn := Zn.out wr hB
          have Hy := Lib.hid hy
          clear hnum hy hyy hcn0
          rcases Hy.out with rfl | ⟨p, rfl, hp⟩
          · go_wp2_with fail
            go_roundw
            case rel => exact ⟨q + 1, by go_num, by omega, hB⟩
            case measure => simp [intOf]; omega
          · obtain ⟨e, f, hR, heB, d0, d1, d2, d3, hv1⟩ := HL7.out.cells (j := q) hql rfl
            subst hR
            have hokx := Hok.out _ (getD_mem hql)
            obtain ⟨⟨vk, vi, vt, vb⟩, hv⟩ : ∃ v, v = vs.getD q default := ⟨_, rfl⟩
            rw [← hv] at d0 d1 d2 d3 hokx hp
            simp only [] at d0 d1 d2 d3
            have hpl : p < L.length := (List.getElem?_eq_some_iff.1 hp).1
            have hvL : (⟨vk, vi, vt, vb⟩ : Vl) ∈ L := List.mem_of_getElem? hp
            have hfnd := fnd_at Hd.out.nd hp
            have hgd : L.getD p default = ⟨vk, vi, vt, vb⟩ := by rw [List.getD_eq_getElem?_getD, hp]; rfl
            have hplace := srt_place Hd.out.may Hd.out.nd hvL
            have htosp := tos_at hp
            have hmayv := Hd.out.may _ hvL
            have Z := Lib.hid fun w' (hb : Below w7.heap.size w7 w') => (⟨(hb.cell (p := ⟨e, f + q * 4, none⟩) heB).trans d0, (hb.cell (p := ⟨e, f + q * 4 + 1, none⟩) heB).trans d1, (hb.cell (p := ⟨e, f + q * 4 + 2, none⟩) heB).trans d2, (hb.cell (p := ⟨e, f + q * 4 + 3, none⟩) heB).trans d3⟩ : _ ∧ _ ∧ _ ∧ _)
            have HBr := Lib.hid (HB7.out.below I hB)
            have Cf := I.find_ ⟨vk, vi, vt, vb⟩ HBr.out.dic Hd.out Ha.out hokx
            rw [if_pos hvL, decide_eq_true hvL, hfnd] at Cf
            have Ca := fun w h => I.at_ (w := w) (d := dd) (L := L) (k := lm) (G := G) (p : Int) h Hd.out Ha.out
            rw [if_pos ⟨by omega, by omega⟩, decide_eq_true ⟨by omega, by omega⟩, Int.toNat_natCast, hgd] at Ca
            have Cse := fun w h => J.search_ A4 L.length c4 (srt L) ⟨vk, vi, vt, vb⟩ w h Hsok.out hokx
            have eN : schN (srt L) ⟨vk, vi, vt, vb⟩ = (place L ⟨vk, vi, vt, vb⟩ : Int) := by
              unfold schN
              rw [if_pos (tr_yes ⟨hmayv, Hris.out⟩), place_perm (srt_perm L)]
            have eB : schB (srt L) ⟨vk, vi, vt, vb⟩ = true := by
              unfold schB
              exact tr_yes ⟨hmayv, Hris.out, (srt_mem L _).2 hvL⟩
            rw [eN, eB] at Cse
            unfold ag at Cf Ca Cse
            simp only [] at Ca
            obtain ⟨pp, hpp⟩ : ∃ pp, pp = place L ⟨vk, vi, vt, vb⟩ := ⟨_, rfl⟩
            rw [← hpp] at Cse hplace htosp
            have hppl : pp < L.length := by have := (List.getElem?_eq_some_iff.1 hplace).1; rw [srt_len] at this; exact this
            have Cf := Lib.hid Cf
            have Ca := Lib.hid Ca
            have Cse := Lib.hid Cse
            -- the cells of the sorted list and of the indices
            obtain ⟨bs, os, hA4, hbsB, s0, s1, s2, s3, -⟩ := HV7.out.cells (j := pp) (by rw [srt_len]; exact hppl) rfl
            have hsg : (srt L).getD pp default = ⟨vk, vi, vt, vb⟩ := by rw [List.getD_eq_getElem?_getD, hplace]; rfl
            rw [hsg] at s0 s1 s2 s3
            simp only [] at s0 s1 s2 s3
            obtain ⟨bt, ot, hBt, hbtB, t0⟩ := HT7.out.rd p (by rw [tos_len]; exact hpl)
            have htg : (tos L).getD p 0 = (pp : Int) := by rw [List.getD_eq_getElem?_getD, htosp]; rfl
            rw [htg] at t0
            have S := Lib.hid fun w' (hb : Below w7.heap.size w7 w') => (⟨(hb.cell (p := ⟨bs, os + pp * 4, none⟩) hbsB).trans s0, (hb.cell (p := ⟨bs, os + pp * 4 + 1, none⟩) hbsB).trans s1, (hb.cell (p := ⟨bs, os + pp * 4 + 2, none⟩) hbsB).trans s2, (hb.cell (p := ⟨bs, os + pp * 4 + 3, none⟩) hbsB).trans s3, (hb.cell (p := ⟨bt, ot + p, none⟩) hbtB).trans t0⟩ : _ ∧ _ ∧ _ ∧ _ ∧ _)
            subst hA4
            subst hBt
            have heq := fun w => Vc.eqV vk vi vt vb vk vi vt vb w
            rw [decide_eq_true (by simp)] at heq
            have hpI : (p : Int) < (L.length : Int) := by omega
            have hppI : (pp : Int) < (L.length : Int) := by omega
            have hd1 : decide ((L.length : Int) ≤ (p : Int)) = false := decide_eq_false (by omega)
            have hd2 : decide ((L.length : Int) ≤ (pp : Int)) = false := decide_eq_false (by omega)
            have hd3 : decide ((p : Int) < 0) = false := decide_eq_false (by omega)
            have hd5 : decide ((pp : Int) < 0) = false := decide_eq_false (by omega)
            have hd6 : decide (L.length ≤ p) = false := decide_eq_false (by omega)
            have hd7 : decide (L.length ≤ pp) = false := decide_eq_false (by omega)
            obtain ⟨z0, z1, z2, z3⟩ := Z.out wr hB
            clear d0 d1 d2 d3 s0 s1 s2 s3 t0 hv1 hokx hv hp hpl hvL hfnd hgd hplace htosp hmayv eN eB hpp hppl hsg htg Hy hql
            go_wp2_with fail
            refine Cf.out.mono ?_
            rintro e' w8 ⟨rfl, hB8⟩
            have HB8 := Lib.hid (HBr.out.below I hB8)
            have hb8 := hB.trans (hB8.mono hB.size)
            clear z0 z1 z2 z3 zn HBr hB8
            have zn := Zn.out w8 hb8
            go_wp2_with fail
            refine (Ca.out w8 HB8.out.dic).mono ?_
            rintro e' w9 ⟨rfl, hB9⟩
            have hB10 : Below w9.heap.size w9 (w9.alloc (.cells #[.int .i64 vk, .int .i64 vi, .string vt, .bool vb] 24)) := (Below.refl _ _).alloc (Nat.le_refl _) _
            have hB810 := hB9.trans (hB10.mono hB9.size)
            have hb10 := hb8.trans (hB810.mono hb8.size)
            have x10 : Vc.Vb (w9.alloc (.cells #[.int .i64 vk, .int .i64 vi, .string vt, .bool vb] 24)) w9.heap.size vk vi vt vb := Wd.Bx.new w9 _ _
            obtain ⟨⟨y0, y1, y2, y3⟩, -⟩ := Vc.four x10
            clear zn HB8 hB9 hB10 hB810 x10 Ca Cf hb8
            go_wp2_with fail
            generalize w9.alloc (.cells #[.int .i64 vk, .int .i64 vi, .string vt, .bool vb] 24) = w10 at *
            have zn := Zn.out w10 hb10
            obtain ⟨z0, z1, z2, z3⟩ := Z.out w10 hb10
            go_quiet (fail)
            go_wp2_with fail
            refine (Cse.out _ (HV7.out.below (Wd.below_drewN hb10 _))).mono ?_
            rintro e' w12 ⟨rfl, hB12⟩
            have hb12 : Below w7.heap.size w7 w12 := (Wd.below_drewN hb10 _).trans (hB12.mono hb10.size)
            clear zn z0 z1 z2 z3 y0 y1 y2 y3 hB12 Cse hb10
            obtain ⟨s0, s1, s2, s3, t0⟩ := S.out w12 hb12
            obtain ⟨z0, z1, z2, z3⟩ := Z.out w12 hb12
            go_wp2_with fail
            go_quiet (fail)
            go_wp2_with fail
            go_roundw
            case rel => exact ⟨q + 1, by go_num, by omega, Wd.below_drewN hb12 _⟩
            case measure => simp [intOf]; omega
        · have hqI : ¬ (q : Int) < (nn : Int) := by omega
          go_wp2_with fail
          go_ret
          exact ⟨rfl, hB1.trans ((hbel7.trans (hB.mono hbel7.size)).mono hB1.size)⟩
end Lw
end Go.Proofs.Ytiokajaadmfohaa
