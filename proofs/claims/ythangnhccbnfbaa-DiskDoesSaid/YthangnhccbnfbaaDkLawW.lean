/- A disk as the statements of layer 5 keep it; what their functions Does and Few do. -/
import Derived.Test.YthangnhccbnfbaaDkLose
import Derived.Test.YthangnhccbnfbaaDkOp
namespace Go.Proofs.Ythangnhccbnfbaa
open Go.RowKit Go.Maps
namespace Dk
open Wd (Opr Op1)
/-- In w, which has come of wo, lies the disk S at d, in memory that is new since wo. -/
def At (wo w : World) (d : Nat) (S : Pd) : Prop := ∃ G, Dsk w d G S ∧ (∀ g, G g → wo.heap.size ≤ g) ∧ Below wo.heap.size wo w
section
variable {wo w w' : World} {d : Nat} {S : Pd}
theorem At.base (h : At wo w d S) : Below wo.heap.size wo w := by
  obtain ⟨G, _, _, h⟩ := h
  exact h
theorem At.ok (h : At wo w d S) : S.Ok := by
  obtain ⟨G, h, _⟩ := h
  exact h.ok
theorem At.below (h : At wo w d S) (hb : Below w.heap.size w w') : At wo w' d S := by
  obtain ⟨G, h1, h2, h3⟩ := h
  exact ⟨G, h1.below hb, h2, h3.trans (hb.mono h3.size)⟩
theorem At.new (h : Below w.heap.size w w') (hD : Dsk w' d (fun g => w.heap.size ≤ g ∧ g < w'.heap.size) S) : At w w' d S := ⟨_, hD, fun _ hg => hg.1, h⟩
theorem At.mv {G : Nat → Prop} (hG : ∀ g, G g → wo.heap.size ≤ g) (hB : Below wo.heap.size wo w) (mv : Wd.Mv G w w') (hD : Dsk w' d (Wd.Gr G w w') S) : At wo w' d S :=
  ⟨_, hD, Wd.Gr.ge hG hB.size, hB.trans (mv.below hG hB.size)⟩
/-- An operation ended with r.1 and left the disk r.2. -/
def Ans (wo : World) (d : Nat) (r : Int × Pd) (e : Ending) (w' : World) : Prop := e = .returned (.int .i64 r.1) ∧ At wo w' d r.2
def Ans0 (wo : World) (d : Nat) (S : Pd) (e : Ending) (w' : World) : Prop := e = .returned (.tuple #[]) ∧ At wo w' d S
theorem at_create (h : At wo w d S) (s : ByteArray) (hs : s.size ≤ 100) : Calls Try.prog 18 #[pt d, .string s] w (Ans wo d (create S s)) := by
  obtain ⟨G, h1, h2, h3⟩ := h
  exact (create_any h1 s hs).mono fun e w' ⟨he, mv, hD⟩ => ⟨he, At.mv h2 h3 mv hD⟩
theorem at_sync (h : At wo w d S) (s : ByteArray) (hs : s.size ≤ 100) : Calls Try.prog 20 #[pt d, .string s] w (Ans wo d (sync S s)) := by
  obtain ⟨G, h1, h2, h3⟩ := h
  exact (sync_any h1 s hs).mono fun e w' ⟨he, mv, hD⟩ => ⟨he, At.mv h2 h3 mv hD⟩
theorem at_delete (h : At wo w d S) (s : ByteArray) (hs : s.size ≤ 100) : Calls Try.prog 27 #[pt d, .string s] w (Ans wo d (delete S s)) := by
  obtain ⟨G, h1, h2, h3⟩ := h
  exact (delete_any h1 s hs).mono fun e w' ⟨he, mv, hD⟩ => ⟨he, At.mv h2 h3 mv hD⟩
/-- A slice of old memory is there while the disk turns. -/
theorem old_sl {G : Nat → Prop} {k : IntKind} {A : Option Addr} {n c : Nat} {b : List Int} (hG : ∀ g, G g → wo.heap.size ≤ g) (hB : Below wo.heap.size wo w) (hS : Wd.Sl wo k A n c b) (W : World) (hW : Wd.Mv G w W) : Wd.Sl W k A n c b :=
  hS.below (hB.trans (hW.below hG hB.size))
theorem at_append (h : At wo w d S) (s : ByteArray) (hs : s.size ≤ 100) (A : Option Addr) (n c : Nat) (b : List Int) (hS : Wd.Sl wo .u8 A n c b) (hn : n ≤ 1000000) :
    Calls Try.prog 19 #[pt d, .string s, .slice A n c] w (Ans wo d (append S s b)) := by
  obtain ⟨G, h1, h2, h3⟩ := h
  exact (append_any h1 s hs A n c b (old_sl h2 h3 hS) hn).mono fun e w' ⟨he, mv, hD⟩ => ⟨he, At.mv h2 h3 mv hD⟩
theorem at_room (h : At wo w d S) (n : Int) : Calls Try.prog 28 #[pt d, .int .i64 n] w (Ans0 wo d (room S n)) := by
  obtain ⟨G, h1, h2, h3⟩ := h
  exact (room_any h1 n).mono fun e w' ⟨he, mv, hD⟩ => ⟨he, At.mv h2 h3 mv hD⟩
theorem at_arm (h : At wo w d S) (n : Int) (hw : (Lit.int .i64 n).wf = true) : Calls Try.prog 29 #[pt d, .int .i64 n] w (Ans0 wo d (armed S n)) := by
  obtain ⟨G, h1, h2, h3⟩ := h
  have hb := bounds_i64 hw
  exact (arm_any h1 n hb.1 hb.2).mono fun e w' ⟨he, mv, hD⟩ => ⟨he, At.mv h2 h3 mv hD⟩
theorem at_crash (h : At wo w d S) (A : Option Addr) (n c : Nat) (keep : List Int) (hS : Wd.Sl wo .i64 A n c keep) (hF : Wd.Fits .i64 keep) : Calls Try.prog 21 #[pt d, .slice A n c] w (Ans0 wo d (crash S keep)) := by
  obtain ⟨G, h1, h2, h3⟩ := h
  exact (crash_any h1 A n c keep (old_sl h2 h3 hS) hF).mono fun e w' ⟨he, mv, hD⟩ => ⟨he, At.mv h2 h3 mv hD⟩
theorem at_read (h : At wo w d S) (s : ByteArray) (hs : s.size ≤ 100) : Calls Try.prog 15 #[pt d, .string s] w (OutR w (read S s)) := by
  obtain ⟨G, h1, h2, h3⟩ := h
  exact read_any h1 s hs
theorem at_used (h : At wo w d S) : Calls Try.prog 23 #[pt d] w fun e w' => e = .returned (.int .i64 (used S.fs : Int)) ∧ Below w.heap.size w w' := by
  obtain ⟨G, h1, h2, h3⟩ := h
  exact dused_any h1
theorem at_dead (h : At wo w d S) : Calls Try.prog 24 #[pt d] w fun e w' => e = .returned (.bool S.dead) ∧ w' = w := by
  obtain ⟨G, h1, h2, h3⟩ := h
  exact ddead_any h1
theorem at_list (h : At wo w d S) : Calls Try.prog 25 #[pt d] w fun e w' => ∃ v, e = .returned v ∧ w'.ownsRow w.heap.size 9 1 v (if S.dead then [] else S.fs.map Pf.name).length ((if S.dead then [] else S.fs.map Pf.name).map Value.string) ∧ Below w.heap.size w w' := by
  obtain ⟨G, ⟨m, L, hl, hp, ok⟩, h2, h3⟩ := h
  have few := ok.few
  have hL : L.length ≤ 256 := by rw [← hp] at few; simpa using few
  cases hd : S.dead
  · rw [hd] at hl
    refine (list_live hl (by omega)).mono ?_
    rintro e w' ⟨v, he, ho, hb⟩
    refine ⟨v, he, ?_, hb⟩
    have e1 : S.fs.map Pf.name = L.map Fil.name := by rw [← hp, List.map_map]; rfl
    simp only [Bool.false_eq_true, if_false, e1, List.length_map, List.map_map]
    exact ho
  · rw [hd] at hl
    refine (list_dead hl).mono ?_
    rintro e w' ⟨he, rfl⟩
    exact ⟨_, he, by simpa using World.ownsRow_nil _ _ _ _, Below.refl _ _⟩
end

/-- What a call of a disk does. -/
def doesS (S : Pd) (o : Opr) : Int × Pd :=
  if o.kind = 0 then create S o.name else if o.kind = 1 then append S o.name o.b else if o.kind = 2 then sync S o.name else if o.kind = 3 then delete S o.name
  else if o.kind = 4 then (0, room S o.num) else if o.kind = 5 then (0, armed S o.num) else if o.kind = 6 then (0, crash S o.keep) else (0, S)
/-- A call is small. -/
def Sm (o : Opr) : Prop := o.b.length ≤ 300 ∧ o.keep.length ≤ 20 ∧ o.name.size ≤ 100
section
variable {wo w : World} {d : Nat} {S : Pd}
set_option maxHeartbeats 2000000 in
theorem does_any (h : At wo w d S) (o : Opr) (ho : Op1 wo o) (hs : Sm o) :
    Calls Try.prog 12 #[pt d, .agg o.vals.toArray] w (Ans wo d (doesS S o)) := by
  obtain ⟨kind, num, name, bA, bn, bc, b, kA, kn, kc, keep⟩ := o
  obtain ⟨ob, ok, okf, ow0, ow1⟩ := ho
  obtain ⟨s1, s2, s3⟩ := hs
  simp only [] at ob ok okf ow0 ow1 s1 s2 s3
  have hbn : bn ≤ 1000000 := by rw [ob.len]; omega
  have hbx := (Below.refl w.heap.size w).alloc (Nat.le_refl _) (.cells #[.int .i64 kind, .int .i64 num, .string name, .slice bA bn bc, .slice kA kn kc] 36)
  have h' := h.below hbx
  have c0 := at_create h' name s3
  have c1 := at_append h' name s3 bA bn bc b ob hbn
  have c2 := at_sync h' name s3
  have c3 := at_delete h' name s3
  have c4 := at_room h' num
  have c5 := at_arm h' num ow1
  have c6 := at_crash h' kA kn kc keep ok okf
  clear hbx
  simp only [Opr.vals]
  by_cases k0 : kind = 0
  · subst k0
    go_enter Try.func12, Try.ntmps12
    go_wp2_with fail
    refine c0.mono ?_
    rintro e w1 ⟨rfl, h1⟩
    go_wp2_with fail
    go_ret
    exact ⟨rfl, h1⟩
  by_cases k1 : kind = 1
  · subst k1
    go_enter Try.func12, Try.ntmps12
    go_wp2_with fail
    refine c1.mono ?_
    rintro e w1 ⟨rfl, h1⟩
    go_wp2_with fail
    go_ret
    exact ⟨rfl, h1⟩
  by_cases k2 : kind = 2
  · subst k2
    go_enter Try.func12, Try.ntmps12
    go_wp2_with fail
    refine c2.mono ?_
    rintro e w1 ⟨rfl, h1⟩
    go_wp2_with fail
    go_ret
    exact ⟨rfl, h1⟩
  by_cases k3 : kind = 3
  · subst k3
    go_enter Try.func12, Try.ntmps12
    go_wp2_with fail
    refine c3.mono ?_
    rintro e w1 ⟨rfl, h1⟩
    go_wp2_with fail
    go_ret
    exact ⟨rfl, h1⟩
  by_cases k4 : kind = 4
  · subst k4
    go_enter Try.func12, Try.ntmps12
    go_wp2_with fail
    refine c4.mono ?_
    rintro e w1 ⟨rfl, h1⟩
    go_wp2_with fail
    go_ret
    exact ⟨rfl, h1⟩
  by_cases k5 : kind = 5
  · subst k5
    go_enter Try.func12, Try.ntmps12
    go_wp2_with fail
    refine c5.mono ?_
    rintro e w1 ⟨rfl, h1⟩
    go_wp2_with fail
    go_ret
    exact ⟨rfl, h1⟩
  by_cases k6 : kind = 6
  · subst k6
    go_enter Try.func12, Try.ntmps12
    go_wp2_with fail
    refine c6.mono ?_
    rintro e w1 ⟨rfl, h1⟩
    go_wp2_with fail
    go_ret
    exact ⟨rfl, h1⟩
  · have e1 : doesS S ⟨kind, num, name, bA, bn, bc, b, kA, kn, kc, keep⟩ = (0, S) := by
      unfold doesS
      simp only [if_neg k0, if_neg k1, if_neg k2, if_neg k3, if_neg k4, if_neg k5, if_neg k6]
    rw [e1]
    have q0 : (kind == 0) = false := by simpa using k0
    have q1 : (kind == 1) = false := by simpa using k1
    have q2 : (kind == 2) = false := by simpa using k2
    have q3 : (kind == 3) = false := by simpa using k3
    have q4 : (kind == 4) = false := by simpa using k4
    have q5 : (kind == 5) = false := by simpa using k5
    have q6 : (kind == 6) = false := by simpa using k6
    clear k0 k1 k2 k3 k4 k5 k6 e1
    go_enter Try.func12, Try.ntmps12
    go_wp2_with fail
    go_ret
    exact ⟨rfl, h'⟩
end

/-- There are few calls, each of them small. -/
def Fw (os : List Opr) (most : Nat) : Prop := os.length ≤ most ∧ ∀ o ∈ os, Sm o
set_option maxHeartbeats 2000000 in
theorem few_any (A : Option Addr) (n c : Nat) (os : List Opr) (most : Nat) (w : World) (h : Wd.Os w A n c os) (hm : most ≤ 1000000) :
    Calls Try.prog 9 #[.slice A n c, .int .i64 (most : Int)] w fun e w' => (e = .returned (.int .i64 0) ∧ Fw os most ∨ e = .returned (.int .i64 1)) ∧ w' = w := by
  have hl := h.len
  have hcp := h.cap
  have hmx := h.max
  unfold maxLen at hmx
  by_cases hn : most < n
  · have g1 : decide ((most : Int) < (n : Int)) = true := decide_eq_true (by omega)
    clear hl
    go_enter Try.func9, Try.ntmps9
    go_wp2_with fail
    go_ret
    exact ⟨.inr rfl, rfl⟩
  · have g1 : decide ((most : Int) < (n : Int)) = false := decide_eq_false (by omega)
    have hl' := Lib.hid hl
    clear hl
    go_enter Try.func9, Try.ntmps9
    go_wp2_with fail
    go_loopw [5] (fun iv wr => ∃ k : Nat, iv = .int .i64 (k : Int) ∧ k ≤ n ∧ wr = w ∧ ∀ o ∈ os.take k, Sm o) (fun iv _ => n - (intOf iv).toNat)
    case atStart => exact ⟨0, rfl, Nat.zero_le _, rfl, by simp⟩
    case round =>
      obtain ⟨k, rfl, hk, rfl, hS⟩ := hrel
      have hS' := Lib.hid hS
      clear hS
      by_cases hlt : k < n
      · have hko : k < os.length := by rw [← hl'.out]; exact hlt
        obtain ⟨o, ho⟩ : ∃ o, o = os.getD k default := ⟨_, rfl⟩
        obtain ⟨b, f, rfl, hb, d0, d1, d2, d3, d4, h1⟩ := h.cells hko ho
        have i1 : (k : Int) < (n : Int) := by omega
        have hb1 := h1.b.len
        have hk1 := h1.k.len
        have hbm := h1.b.max
        have hbc := h1.b.cap
        have hkm := h1.k.max
        have hkc := h1.k.cap
        unfold maxLen at hbm hkm
        have ho' := Lib.hid ho
        have hb1' := Lib.hid hb1
        have hk1' := Lib.hid hk1
        clear ho hb1 hk1 h1 g1 hko
        by_cases q1 : 300 < o.bn
        · have g1 : decide ((300 : Int) < (o.bn : Int)) = true := decide_eq_true (by omega)
          go_wp2_with fail
          go_ret
          exact ⟨.inr rfl, rfl⟩
        by_cases q2 : 20 < o.kn
        · have g1 : decide ((300 : Int) < (o.bn : Int)) = false := decide_eq_false (by omega)
          have g2 : decide ((20 : Int) < (o.kn : Int)) = true := decide_eq_true (by omega)
          go_wp2_with fail
          go_ret
          exact ⟨.inr rfl, rfl⟩
        by_cases q3 : 100 < o.name.size
        · have g1 : decide ((300 : Int) < (o.bn : Int)) = false := decide_eq_false (by omega)
          have g2 : decide ((20 : Int) < (o.kn : Int)) = false := decide_eq_false (by omega)
          have g3 : decide ((100 : Int) < (o.name.size : Int)) = true := decide_eq_true (by omega)
          go_wp2_with fail
          go_ret
          exact ⟨.inr rfl, rfl⟩
        · have g1 : decide ((300 : Int) < (o.bn : Int)) = false := decide_eq_false (by omega)
          have g2 : decide ((20 : Int) < (o.kn : Int)) = false := decide_eq_false (by omega)
          have g3 : decide ((100 : Int) < (o.name.size : Int)) = false := decide_eq_false (by omega)
          go_wp2_with fail
          go_roundw
          case rel =>
            refine ⟨k + 1, by simp, hlt, by trivial, fun x hx => ?_⟩
            have hko : k < os.length := by rw [← hl'.out]; exact hlt
            rw [List.take_succ_eq_append_getElem hko, List.mem_append] at hx
            rcases hx with hx | hx
            · exact hS'.out x hx
            · simp only [List.mem_singleton] at hx
              have e1 : o = os[k] := by rw [ho'.out]; simp [List.getD, hko]
              rw [hx, ← e1]
              exact ⟨by rw [← hb1'.out]; omega, by rw [← hk1'.out]; omega, by omega⟩
          case measure => simp [intOf]; omega
      · go_wp2_with fail
        go_ret
        refine ⟨.inl ⟨by trivial, by rw [← hl'.out]; omega, fun x hx => hS'.out x ?_⟩, rfl⟩
        rw [List.take_of_length_le (by rw [← hl'.out]; omega)]
        exact hx
end Dk
end Go.Proofs.Ythangnhccbnfbaa
