/- Package journal: what the first payload of a file tells. Package journal: entries that are applied one behind the other, as a file tells them. Over any program: a region that draws its order, in a round of a loop over a function, goes as it goes elsewhere. -/
import Derived.RangeFuncCalls
import Derived.OwnWalkIn
import Derived.OrdersHeld
import Derived.Test.YtljgalleiemaaaaPk14
import Derived.Test.YtljgalleiemaaaaPk15
import Derived.Test.YtljgalleiemaaaaPk18
import Derived.Test.YtljgalleiemaaaaPk19
import Derived.Test.YtljgalleiemaaaaPk05
import Derived.Test.YtljgalleiemaaaaPk10
namespace Go.Proofs.Ytljgalleiemaaaa
set_option maxRecDepth 20000
open Go.RowKit
namespace Jr
open Wd (Sl)
open Nc
theorem byt_take {l : List Int} (h : Nm.Byt l) (k : Nat) : Nm.Byt (l.take k) := fun x hx => h x (List.mem_of_mem_take hx)
theorem hasPrefix_any (A B : Option Addr) (n c m d : Nat) (xs ys : List Int) (w : World) (hA : Sl w .u8 A n c xs) (hB : Sl w .u8 B m d ys) (h0 : 0 < m) (b1 : Nm.Byt xs) (b2 : Nm.Byt ys) (r : Bool) (hr : r = true ↔ ys <+: xs) :
    Calls Try.prog 49 #[.slice A n c, .slice B m d] w fun e w' => e = .returned (.bool r) ∧ w = w' := by
  have hn := hA.len
  have hm := hB.len
  have hca := hA.cap
  have hxa := hA.max
  have hcb := hB.cap
  have hxb := hB.max
  unfold maxLen at hxa hxb
  by_cases hle : m ≤ n
  · have e : decide (xs.take m = ys) = r := by
      rw [Bool.eq_iff_iff, hr, decide_eq_true_iff, List.prefix_iff_eq_take, ← hm]
      exact eq_comm
    have C := Fc.equal_any A B m m c d (xs.take m) ys w (hA.head m hle) hB h0 h0 (byt_take b1 m) b2
    rw [e] at C
    have C := Lib.hid C
    clear hn hm hr e
    go_enter Try.func49, Try.ntmps49
    go_wp2_with fail
    refine C.out.mono ?_
    rintro e w' ⟨rfl, rfl⟩
    go_wp2_with fail
    go_ret
    exact ⟨rfl, rfl⟩
  · have e : r = false := by
      cases r with
      | false => rfl
      | true =>
        have := (hr.1 rfl).length_le
        omega
    subst e
    clear hn hm hr
    go_enter Try.func49, Try.ntmps49
    go_wp2_with fail
    go_ret
    exact ⟨rfl, rfl⟩
theorem cutPrefix_no (A B : Option Addr) (n c m d : Nat) (xs ys : List Int) (w : World) (hA : Sl w .u8 A n c xs) (hB : Sl w .u8 B m d ys) (h0 : 0 < m) (b1 : Nm.Byt xs) (b2 : Nm.Byt ys) (h : ¬ ys <+: xs) :
    Calls Try.prog 42 #[.slice A n c, .slice B m d] w fun e w' => e = .returned (.tuple #[.slice A n c, .bool false]) ∧ w = w' := by
  have C := Lib.hid (hasPrefix_any A B n c m d xs ys w hA hB h0 b1 b2 false (by simp [h]))
  go_enter Try.func42, Try.ntmps42
  go_wp2_with fail
  refine C.out.mono ?_
  rintro e w' ⟨rfl, rfl⟩
  go_wp2_with fail
  go_ret2
  exact ⟨rfl, rfl⟩
theorem cutPrefix_yes (A B : Option Addr) (n c m d : Nat) (xs ys : List Int) (w : World) (hA : Sl w .u8 A n c (ys ++ xs)) (hB : Sl w .u8 B m d ys) (h0 : 0 < m) (b1 : Nm.Byt (ys ++ xs)) (b2 : Nm.Byt ys) :
    Calls Try.prog 42 #[.slice A n c, .slice B m d] w fun e w' => (∃ A' c', e = .returned (.tuple #[.slice A' (n - m) c', .bool true]) ∧ Sl w .u8 A' (n - m) c' xs) ∧ w = w' := by
  have C := Lib.hid (hasPrefix_any A B n c m d (ys ++ xs) ys w hA hB h0 b1 b2 true (by simp))
  have hn := hA.len
  have hm := hB.len
  rw [List.length_append] at hn
  have hca := hA.cap
  have hxa := hA.max
  unfold maxLen at hxa
  have hmn : m ≤ n := by omega
  have hcut := hA.cut m hmn
  rw [hm, List.drop_left, ← hm] at hcut
  by_cases hcm : c = m
  · rw [if_pos hcm] at hcut
    subst hcm
    rw [Nat.sub_self] at hcut
    have HC := Lib.hid hcut
    have hnz : n - c = 0 := by omega
    rw [hnz] at HC ⊢
    clear hcut hn hm
    go_enter Try.func42, Try.ntmps42
    go_wp2_with fail
    refine C.out.mono ?_
    rintro e w' ⟨rfl, rfl⟩
    go_wp2_with fail
    go_ret2
    exact ⟨⟨_, _, rfl, HC.out⟩, rfl⟩
  · rw [if_neg hcm] at hcut
    obtain ⟨b, o, rfl, -, -⟩ := hA.rd.some_ (by rw [List.length_append]; omega)
    rw [Option.map_some, Addr.add_lit] at hcut
    have HC := Lib.hid hcut
    clear hcut hn hm
    go_enter Try.func42, Try.ntmps42
    go_wp2_with fail
    refine C.out.mono ?_
    rintro e w' ⟨rfl, rfl⟩
    go_wp2_with fail
    go_ret2
    exact ⟨⟨_, _, rfl, HC.out⟩, rfl⟩
open Jo (head) in
theorem countIn_yes (A : Option Addr) (n c : Nat) (no : Int) (k : Nat) (w : World) (hA : Sl w .u8 A n c (head no k)) (h0 : 0 ≤ no) (h1 : no ≤ 1073741824) (hk : k ≤ 4096) :
    Calls Try.prog 27 #[.slice A n c, .int .i64 no] w fun e w' => e = .returned (.tuple #[.int .i64 (k : Int), .bool true]) ∧ Below w.heap.size w w' := by
  have C1 := putLen_any none 0 0 [] no w (Sl.none_ _ _) (by omega) (by omega) (by omega)
  rw [if_neg (by omega), List.nil_append] at C1
  have C1 := Lib.hid C1
  have HA := Lib.hid hA
  have by1 := Nm.vd_byt no h0 (by omega)
  have by2 := Nm.vd_byt (k : Int) (by omega) (by omega)
  have BY := Lib.hid (And.intro by1 by2)
  have hq := Lib.hid (Nm.vd_len no).1
  have hkI : ¬ (4096 : Int) < (k : Int) := by omega
  have gl := Lw.getL_vd (k : Int) [] (by omega) (by omega)
  rw [List.append_nil] at gl
  have GL := Lib.hid gl
  have hnI : ¬ no < 0 := by omega
  clear hA by1 by2 h1 hk gl
  go_enter Try.func27, Try.ntmps27
  go_wp2_with fail
  refine C1.out.mono ?_
  rintro e w2 ⟨A2, n2, c2, rfl, hS2, hB2⟩
  have h2 : 0 < n2 := by have := hS2.len; have := hq.out; omega
  have C2 := Lib.hid (cutPrefix_yes A A2 n c n2 c2 (Nm.vd (k : Int)) (Nm.vd no) w2 (HA.out.below hB2) hS2 h2 (fun x hx => by
    rcases List.mem_append.1 hx with z | z
    · exact BY.out.1 x z
    · exact BY.out.2 x z) BY.out.1)
  have HB2 := Lib.hid hB2
  clear hB2 hS2 h2
  go_wp2_with fail
  refine C2.out.mono ?_
  rintro e w3 ⟨⟨A3, c3, rfl, hS3⟩, rfl⟩
  obtain ⟨m, hm⟩ : ∃ m, m = n - n2 := ⟨_, rfl⟩
  rw [← hm] at hS3 ⊢
  have C3 := getLen_any A3 m c3 (Nm.vd (k : Int)) w2 hS3 BY.out.2
  rw [GL.out, ← hS3.len] at C3
  unfold three at C3
  have C3 := Lib.hid C3
  have k1 : ((m : Int) == (m : Int)) = true := by simp
  have k2 : ((m : Int) != (m : Int)) = false := by simp
  clear hm hS3
  go_wp2_with fail
  refine C3.out.mono ?_
  rintro e w' ⟨rfl, rfl⟩
  go_wp2_with fail
  go_ret2
  exact ⟨rfl, HB2.out⟩
theorem not_pre {no no' : Int} {k : Nat} (h0 : 0 ≤ no) (h1 : no ≤ 1073741824) (g0 : 0 ≤ no') (g1 : no' ≤ 1073741824) (hne : no' ≠ no) : ¬ Nm.vd no <+: Jo.head no' k := by
  rintro ⟨r, hr⟩
  have := Jo.vd_pre h0 (by omega) g0 (by omega) hr
  exact hne this.1.symm
open Jo (head) in
theorem countIn_no (A : Option Addr) (n c : Nat) (no no' : Int) (k : Nat) (w : World) (hA : Sl w .u8 A n c (head no' k)) (h0 : 0 ≤ no) (h1 : no ≤ 1073741824) (g0 : 0 ≤ no') (g1 : no' ≤ 1073741824) (hne : no' ≠ no) (hk : k ≤ 4096) :
    Calls Try.prog 27 #[.slice A n c, .int .i64 no] w fun e w' => e = .returned (.tuple #[.int .i64 0, .bool false]) ∧ Below w.heap.size w w' := by
  have C1 := putLen_any none 0 0 [] no w (Sl.none_ _ _) (by omega) (by omega) (by omega)
  rw [if_neg (by omega), List.nil_append] at C1
  have C1 := Lib.hid C1
  have HA := Lib.hid hA
  have BY := Lib.hid (And.intro (Nm.vd_byt no h0 (by omega)) (And.intro (Nm.vd_byt no' g0 (by omega)) (Nm.vd_byt (k : Int) (by omega) (by omega))))
  have hq := Lib.hid (Nm.vd_len no).1
  have NP := Lib.hid (not_pre (k := k) h0 h1 g0 g1 hne)
  clear hA h1 hk g0 g1 hne h0
  go_enter Try.func27, Try.ntmps27
  go_wp2_with fail
  refine C1.out.mono ?_
  rintro e w2 ⟨A2, n2, c2, rfl, hS2, hB2⟩
  have h2 : 0 < n2 := by have := hS2.len; have := hq.out; omega
  have C2 := Lib.hid (cutPrefix_no A A2 n c n2 c2 (head no' k) (Nm.vd no) w2 (HA.out.below hB2) hS2 h2 (fun x hx => by
    rcases List.mem_append.1 hx with z | z
    · exact BY.out.2.1 x z
    · exact BY.out.2.2 x z) BY.out.1 NP.out)
  have HB2 := Lib.hid hB2
  clear hB2 hS2 h2
  go_wp2_with fail
  refine C2.out.mono ?_
  rintro e w3 ⟨rfl, rfl⟩
  go_wp2_with fail
  go_ret2
  exact ⟨rfl, HB2.out⟩
end Jr
end Go.Proofs.Ytljgalleiemaaaa
namespace Go.Proofs.Ytljgalleiemaaaa
set_option maxRecDepth 20000
open Go.RowKit
namespace Jr
open Jo (En May Wf Rg Pt app1 put)
open Wd (Pv Pc Es Lv Bx Sl Ss)
theorem owE_not_map {w : World} {B : Nat} {A : Option Addr} {n c m : Nat} {l : List En} (h : Lv w B A n c l) (hc : n < c) (hm : Mp w m) : (Value.slice A n c).ownBlock ≠ some m := by
  intro e
  rcases h.own with q | q
  · omega
  · rcases q with ⟨q, _⟩ | ⟨g, cap, pre, suf, q, h1, h2, h3, h4, h5⟩
    · cases q
      cases e
    · rw [q] at e
      cases e
      unfold Mp at hm
      unfold Bx at h5
      rw [hm] at h5
      cases h5
/-- What an entry that can be applied makes of four partitions. -/
theorem step_rep {w w' : World} {B b m : Nat} {p0 p1 p2 p3 : Pv} {j i : Jo.Jn} {x : En} (P : Pm w B b p0 p1 p2 p3 j) (hM : Mp w m) (hBb : B ≤ b) (hBw : B ≤ w.heap.size) (ha : Jo.app j x = some i) (hl : ∀ q ∈ j, q.live.length ≤ 400000) (h : Below w.heap.size w w') :
    Calls Try.prog (fnK x.kind) #[.pointer (some ⟨b, x.part.toNat * 3, none⟩), .agg #[.int .i64 x.kind, .int .i64 x.part, .int .i64 x.id, .int .i64 x.st, .int .i64 x.en, .int .i64 x.size, .int .i64 x.sum]] w' fun e w'' => e = .returned (.int .i64 0) ∧ (Below B w' w'' ∧ Mp w'' m ∧ (∀ g, w.heap.size ≤ g → g < w'.heap.size → w''.heap[g]? = w'.heap[g]?)) ∧ ∃ r0 r1 r2 r3, Pm w'' B b r0 r1 r2 r3 i := by
  have P' := P.keep h
  have hM' := hM.below hM.lt h
  unfold Jo.app at ha
  split at ha
  · rename_i hm
    obtain ⟨r, hr, rfl⟩ := Option.map_eq_some_iff.1 ha
    have hp := hm.1
    have hk : x.part.toNat < 4 := by omega
    have hsl : (sel p0 p1 p2 p3 x.part.toNat).l.length ≤ 1000000 := by
      have := hl (sel p0 p1 p2 p3 x.part.toNat).pt (by
        rw [P.e, ← pt_sel hk, List.getD_eq_getElem?_getD, List.getElem?_eq_getElem (by simpa using hk)]
        exact List.getElem_mem _)
      simp only [Pv.pt] at this
      omega
    have hr' : app1 (sel p0 p1 p2 p3 x.part.toNat).pt x = some r := by rw [← pt_sel hk, ← P.e]; exact hr
    have hbw' : B ≤ w'.heap.size := Nat.le_trans hBw h.size
    have C := fn_any B b (x.part.toNat * 3) _ _ _ x w' (P'.pc hk) (P'.lv _ hk) hsl hbw' (P'.nb _ hk) hm
    refine C.mono fun e w'' he => ?_
    obtain ⟨e0, ⟨hb, mv⟩, h3⟩ := P'.step hk he hr' hBb hbw'
    refine ⟨e0, ⟨hb, ?_, ?_⟩, h3⟩
    · refine (mv.keep m hM'.lt fun z => ?_).trans hM'
      rcases z with z | ⟨z1, _, z3⟩
      · subst z
        have hx := P'.box
        unfold Mp at hM'
        unfold Bx at hx
        rw [hM'] at hx
        cases hx
      · exact owE_not_map (P'.lv _ hk) z1 hM' z3
    · intro g hg hlt
      refine mv.keep g hlt fun z => ?_
      rcases z with z | ⟨z1, _, z3⟩
      · have := P.box.lt
        omega
      · have := lv_lt (P.lv _ hk) (by omega) z3
        omega
  · cases ha
/-- What holds at the head of each round. -/
structure RI (w0 wr : World) (b m : Nat) (xs : List En) (k : Nat) (p0 p1 p2 p3 : Pv) (j : Jo.Jn) : Prop where
  pm : Pm wr w0.heap.size b p0 p1 p2 p3 j
  mp : Mp wr m
  md : Jo.made Jo.nil_ (xs.take k) = some j
  bel : Below w0.heap.size w0 wr
theorem put_at {w : World} {A : Option Addr} {n c : Nat} {xs : List En} (h : Ss w A n c (xs.map put)) {k : Nat} (hk : k < xs.length) : ∃ b o A' n' c', A = some ⟨b, o, none⟩ ∧ b < w.heap.size ∧ w.cell? ⟨b, o + k, none⟩ = some (.slice A' n' c') ∧ Sl w .u8 A' n' c' (put (xs.getD k default)) := by
  obtain ⟨b, o, A', n', c', e, h1, h2, h3⟩ := h.at_ k (by rw [List.length_map]; exact hk)
  refine ⟨b, o, A', n', c', e, h1, h2, ?_⟩
  rw [List.getD_eq_getElem?_getD, List.getElem?_map, List.getElem?_eq_getElem hk] at h3
  rw [List.getD_eq_getElem?_getD, List.getElem?_eq_getElem hk]
  exact h3
theorem made_some_take {xs : List En} {i : Jo.Jn} (h : Jo.made Jo.nil_ xs = some i) (k : Nat) : ∃ j, Jo.made Jo.nil_ (xs.take k) = some j := by
  cases hj : Jo.made Jo.nil_ (xs.take k) with
  | none => rw [made_stop hj] at h; cases h
  | some j => exact ⟨j, rfl⟩
set_option maxHeartbeats 8000000 in
theorem replay_any (b : Nat) (A : Option Addr) (n c : Nat) (xs : List En) (i : Jo.Jn) (w0 w : World) (hS : Ss w0 A n c (xs.map put)) (hb : Below w0.heap.size w0 w) (hp : Pm w w0.heap.size b default default default default Jo.nil_) (hbb : w0.heap.size ≤ b) (hm : ∀ x ∈ xs, May x) (hi : Jo.made Jo.nil_ xs = some i) (hn : n ≤ 300000) :
    Calls Try.prog 28 #[.pointer (some ⟨b, 0, none⟩), .slice A n c] w fun e w' => e = .returned (.int .i64 (n : Int)) ∧ Below w0.heap.size w w' ∧ ∃ r0 r1 r2 r3, Pm w' w0.heap.size b r0 r1 r2 r3 i := by
  have hl := hS.len
  rw [List.length_map] at hl
  have HN := Lib.hid hl
  have HS := Lib.hid hS
  have HM := Lib.hid hm
  have HI := Lib.hid hi
  have HP := Lib.hid hp
  have HB := Lib.hid hb
  have hcap := hS.cap
  have hmx := hS.max
  unfold maxLen at hmx
  have Ce := Lib.hid (effects_any w)
  clear hl hS hm hi hp hb
  go_enter Try.func28, Try.ntmps28
  go_wp2_with fail
  refine Ce.out.mono ?_
  rintro e w2 ⟨rfl, hM2, hB2⟩
  obtain ⟨mm, hmm⟩ : ∃ mm, mm = w.heap.size := ⟨_, rfl⟩
  rw [← hmm] at hM2 ⊢
  have I2 : Hid (RI w0 w2 b mm xs 0 default default default default Jo.nil_) := Lib.hid ⟨HP.out.keep hB2, hM2, rfl, HB.out.trans (hB2.mono HB.out.size)⟩
  have B2 := Lib.hid (hB2.mono HB.out.size)
  clear hmm hM2 hB2
  go_wp2_with fail
  go_loopw [6, 7, 8, 9, 13] (fun _ _ _ _ u wr => ∃ k : Nat, u = .int .i64 k ∧ k ≤ n ∧ (∃ p0 p1 p2 p3 j, Hid (RI w0 wr b mm xs k p0 p1 p2 p3 j)) ∧ Hid (Below w0.heap.size w wr)) (fun _ _ _ _ u _ => n - (intOf u).toNat)
  case atStart => exact ⟨0, rfl, Nat.zero_le _, ⟨_, _, _, _, _, I2⟩, B2⟩
  case round =>
    obtain ⟨k, rfl, hk, ⟨p0, p1, p2, p3, j, hR⟩, hW⟩ := hrel
    by_cases hlt : k < n
    · have hkI : (k : Int) < (n : Int) := by omega
      have hkl : k < xs.length := by rw [← HN.out]; exact hlt
      obtain ⟨sb, so, A1, n1, c1, hA, hsb, hsc, hss⟩ := put_at HS.out hkl
      obtain ⟨x, hx⟩ : ∃ x, x = xs.getD k default := ⟨_, rfl⟩
      rw [← hx] at hss
      have hxm : x ∈ xs := by rw [hx]; exact Wd.getD_mem hkl
      have hmay := HM.out x hxm
      have mt := made_take hkl hR.out.md
      rw [← hx] at mt
      obtain ⟨j2, hj2⟩ := made_some_take HI.out (k + 1)
      rw [hj2] at mt
      have MD := Lib.hid hj2
      have MA := Lib.hid mt.symm
      have lj := fun q hq => made_len _ _ _ 0 (fun q hq => by simp [Jo.nil_, default] at hq; rw [hq]; simp) hR.out.md q hq
      have LJ : Hid (∀ q ∈ j, q.live.length ≤ 400000) := Lib.hid fun q hq => by
        have := lj q hq
        rw [List.length_take] at this
        omega
      have hsc' := (hR.out.bel.cell (p := ⟨sb, so + k, none⟩) hsb).trans hsc
      have Cg := Lib.hid (get_ok A1 n1 c1 x wr hmay ((hss.below hR.out.bel)))
      have hp0 : 0 ≤ x.part := hmay.1.1
      have hp1 : x.part ≤ 3 := hmay.1.2.1
      have hp2 : x.part < 4 := by omega
      have HY := Lib.hid hmay
      subst hA
      clear hkl hx hxm hmay mt hj2 lj hsc hss hsb
      go_wp2_with fail
      refine Cg.out.mono ?_
      rintro e w4 ⟨rfl, hB4⟩
      go_upto_region 6 with fail
      have al := (Below.refl w4.heap.size w4).alloc (Nat.le_refl _) (.cells #[.int .i64 x.kind, .int .i64 x.part, .int .i64 x.id, .int .i64 x.st, .int .i64 x.en, .int .i64 x.size, .int .i64 x.sum] 32)
      have xb := Bx.new w4 32 #[.int .i64 x.kind, .int .i64 x.part, .int .i64 x.id, .int .i64 x.st, .int .i64 x.en, .int .i64 x.size, .int .i64 x.sum]
      obtain ⟨w5, hw5⟩ : ∃ w5, w5 = w4.alloc (.cells #[.int .i64 x.kind, .int .i64 x.part, .int .i64 x.id, .int .i64 x.st, .int .i64 x.en, .int .i64 x.size, .int .i64 x.sum] 32) := ⟨_, rfl⟩
      rw [← hw5] at al xb
      rw [← hw5]
      have hb5 := hB4.trans (al.mono hB4.size)
      have CF : Hid (∀ w', Below w5.heap.size w5 w' → Calls Try.prog (fnK x.kind) #[.pointer (some ⟨b, x.part.toNat * 3, none⟩), .agg #[.int .i64 x.kind, .int .i64 x.part, .int .i64 x.id, .int .i64 x.st, .int .i64 x.en, .int .i64 x.size, .int .i64 x.sum]] w' fun e w'' => e = .returned (.int .i64 0) ∧ (Below w0.heap.size w' w'' ∧ Mp w'' mm ∧ (∀ g, wr.heap.size ≤ g → g < w'.heap.size → w''.heap[g]? = w'.heap[g]?)) ∧ ∃ r0 r1 r2 r3, Pm w'' w0.heap.size b r0 r1 r2 r3 j2) := Lib.hid fun w' h => step_rep hR.out.pm hR.out.mp hbb hR.out.bel.size MA.out LJ.out (hb5.trans (h.mono hb5.size))
      have HB5 := Lib.hid hb5
      have XB := Lib.hid xb
      have z0 := seven (Wd.Bx.drew xb)
      have hgo := goes_fn x.kind
      unfold Goes at hgo
      have hlk := look_fn HY.out (w := w5.drew) (show Mp w5.drew mm from hR.out.mp.below hR.out.mp.lt hb5.drew)
      have hxg : wr.heap.size ≤ w4.heap.size := hB4.size
      clear hw5 al xb hb5 hB4 hsc'
      go_region_held3 (fun w' => w'.cell? ⟨w4.heap.size, 0, none⟩ = some (.int .i64 x.kind) ∧ w'.cell? ⟨w4.heap.size, 1, none⟩ = some (.int .i64 x.part) ∧ w'.cell? ⟨w4.heap.size, 2, none⟩ = some (.int .i64 x.id) ∧ w'.cell? ⟨w4.heap.size, 3, none⟩ = some (.int .i64 x.st) ∧ w'.cell? ⟨w4.heap.size, 4, none⟩ = some (.int .i64 x.en) ∧ w'.cell? ⟨w4.heap.size, 5, none⟩ = some (.int .i64 x.size) ∧ w'.cell? ⟨w4.heap.size, 6, none⟩ = some (.int .i64 x.sum)) (with_reducible first | exact z10 | exact z0)
        (((with_reducible refine (CF.out _ (Below.refl _ _).drew).mono ?_); rintro e w6 ⟨rfl, ⟨hb6, hM6, hk6⟩, r0, r1, r2, r3, hP6⟩; have XB6 := Lib.hid ((Wd.Bx.drew XB.out).at_ (hk6 _ hxg (Wd.Bx.drew XB.out).lt)); have z10 := seven XB6.out))
      have I6 : Hid (RI w0 w6 b mm xs (k + 1) r0 r1 r2 r3 j2) := Lib.hid ⟨hP6, hM6, MD.out, (hR.out.bel.trans (HB5.out.mono hR.out.bel.size)).trans (Wd.of_drew hb6)⟩
      have W6 := Lib.hid ((hW.out.trans (HB5.out.mono hR.out.bel.size)).trans (Wd.of_drew hb6))
      clear hP6 hM6 hb6 hk6 z0 z10 hlk hgo
      go_wp2_with fail
      go_roundw
      case rel => exact ⟨k + 1, by go_num, by omega, ⟨_, _, _, _, _, I6⟩, W6⟩
      case measure => simp [intOf]; omega
    · have hkI : ¬ (k : Int) < (n : Int) := by omega
      obtain rfl : k = n := by omega
      have md := hR.out.md
      rw [List.take_of_length_le (by rw [← HN.out]; omega), HI.out] at md
      cases md
      go_wp2_with fail
      go_ret
      exact ⟨rfl, hW.out, p0, p1, p2, p3, hR.out.pm⟩
end Jr
end Go.Proofs.Ytljgalleiemaaaa
namespace Go.Proofs.Ytljgalleiemaaaa
set_option maxRecDepth 20000
open Go.RowKit
namespace Rg

/-! ### A region that draws its order, in a round of a loop over a function: what holds of it as a plain region holds of it there -/
section
variable {P : Program} {l n : Nat} {ops : Array Oper} {md : Region.Mode} {Q : Exit → Act → World → Prop}
theorem upon_in {o : Oper} {a : Act} {K : Act → World → Prop} {r : Result Next} (h : o.upon P a K Q r) : o.uponIn (Fence.wide.inRound l) n P a K Q r := by
  cases r with
  | ok x w' =>
    cases x <;> simp only [Oper.upon] at h <;> simp only [Oper.uponIn]
    all_goals first
      | exact h
      | exact ⟨(fun hd => by cases hd), CallsIn.inRound l (callsIn_wide.2 h)⟩
      | exact ⟨(fun hd => by cases hd), fun c cs _ => let ⟨v, w2, r, s⟩ := h c cs; ⟨v, w2, r, stepsIn_wide.2 s⟩⟩
  | halt x w' => cases x <;> simp only [Oper.upon] at h <;> simp only [Oper.uponIn] <;> exact h
theorem wp_in {o : Oper} {a : Act} {w : World} {K : Act → World → Prop} (hd : ∀ c, o.op ≠ .defer c) (h : o.wp P a w K Q) : o.wpIn (Fence.wide.inRound l) n P a w K Q :=
  ⟨fun _ _ => trivial, by rw [Oper.semAt_plain _ _ _ hd]; exact upon_in h⟩
theorem any_in (hd : ∀ (i : Nat) (o : Oper), ops[i]? = some o → ∀ c, o.op ≠ .defer c) (hQ : ¬ LetsOut Q) : ∀ (fuel : Nat) (listed : Array Bool) (a : Act) (w : World),
    wpAny P md ops Q fuel listed a w → wpAnyIn (Fence.wide.inRound l) n P md ops Q fuel listed a w := by
  intro fuel
  induction fuel with
  | zero => intro listed a w h; exact h
  | succ fuel ih =>
    intro listed a w h
    refine ⟨h.1, fun i hi => ?_⟩
    have h2 := wpOp_mono (fun a' w' h' => ih _ a' w' h') (h.2 i hi)
    unfold wpOp at h2
    unfold wpOpIn
    split
    · rename_i ho; simp only [ho] at h2; exact h2
    · rename_i o ho
      simp only [ho] at h2
      split
      · rename_i hw
        simp only [hw, if_true] at h2
        rcases h2 with h2 | ⟨_, h2⟩
        · exact wp_in (hd i o ho) h2
        · exact absurd h2 hQ
      · rename_i hw
        simp only [hw] at h2
        exact ⟨fun _ _ => trivial, h2⟩
/-- None of the operations is a defer statement. -/
def noDefer (ops : Array Oper) : Bool := ops.toList.all fun o => match o.op with | .defer _ => false | _ => true
theorem noDefer_spec (h : noDefer ops = true) : ∀ (i : Nat) (o : Oper), ops[i]? = some o → ∀ c, o.op ≠ .defer c := fun i o ho c e => by
  have hm : o ∈ ops.toList := Array.mem_toList_iff.2 (Array.mem_of_getElem? ho)
  have := List.all_eq_true.1 h o hm
  rw [e] at this
  cases this
end
end Rg
end Go.Proofs.Ytljgalleiemaaaa
