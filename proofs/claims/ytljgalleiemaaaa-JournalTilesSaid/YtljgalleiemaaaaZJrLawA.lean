/- JournalTiles: the live segments of a partition follow one another without a gap; what a journal tells makes it again. -/
import Derived.Test.YtljgalleiemaaaaPk12
import Derived.Test.YtljgalleiemaaaaPk13
namespace Go.Proofs.Ytljgalleiemaaaa
set_option maxRecDepth 20000
open Go.RowKit
namespace Lw
open Jr
open Jo (En May Wf Rg Pt endOf last app1 Chain)
open Wd (Pv Pc Es Lv Bx)
/-- Where the first m segments end, and the last one's number. -/
def eo (q : Pv) (m : Nat) : Int := endOf ⟨q.g, q.b, q.l.take m⟩
def la (q : Pv) (m : Nat) : Int := last ⟨q.g, q.b, q.l.take m⟩
theorem take_at {l : List En} {m : Nat} (h : m < l.length) : l.take (m + 1) = l.take m ++ [l.getD m default] := by
  rw [List.take_succ_eq_append_getElem h, List.getD_eq_getElem?_getD, List.getElem?_eq_getElem h]
  rfl
theorem eo_next {q : Pv} {m : Nat} (h : m < q.l.length) : eo q (m + 1) = (q.l.getD m default).en := by
  unfold eo
  rw [take_at h, Jo.endOf_app]
theorem la_next {q : Pv} {m : Nat} (h : m < q.l.length) : la q (m + 1) = (q.l.getD m default).id := by
  unfold la
  rw [take_at h, Jo.last_app]
theorem chain_at {p : Int} : ∀ (l : List En) (b g : Int) (m : Nat), Chain p b g l → m < l.length → (l.getD m default).kind = 1 ∧ (l.getD m default).part = p ∧ (l.getD m default).id = last ⟨g, b, l.take m⟩ + 1 ∧ (l.getD m default).st = endOf ⟨g, b, l.take m⟩ ∧ May (l.getD m default)
  | [], _, _, _, _, h => by simp at h
  | x :: l, b, g, 0, ⟨a1, a2, a3, a4, a5, _⟩, _ => ⟨a1, a2, a3, a4, a5⟩
  | x :: l, b, g, m + 1, ⟨a1, a2, a3, a4, a5, a6⟩, h => by
    have ih := chain_at l x.en x.id m a6 (by simpa using h)
    rw [List.take_succ_cons, Jo.endOf_cons g b x.id, Jo.last_cons g b x.en]
    simpa using ih
theorem seg_at {q : Pv} {k m : Nat} (h : Jo.Ok1 k q.pt) (hm : m < q.l.length) : (q.l.getD m default).kind = 1 ∧ (q.l.getD m default).part = k ∧ (q.l.getD m default).id = la q m + 1 ∧ (q.l.getD m default).st = eo q m ∧ May (q.l.getD m default) := chain_at q.l q.b q.g m h.chain hm
theorem eo_all (q : Pv) : eo q q.l.length = endOf q.pt := by unfold eo Pv.pt; rw [List.take_length]
theorem la_all (q : Pv) : la q q.l.length = last q.pt := by unfold la Pv.pt; rw [List.take_length]
theorem eo_zero (q : Pv) : eo q 0 = q.b := by simp [eo, endOf]
theorem la_zero (q : Pv) : la q 0 = q.g := by simp [la, last]
theorem app_len' {j i : Jo.Jn} {x : En} {m : Nat} (h : ∀ q ∈ j, q.live.length ≤ m) (ha : Jo.app j x = some i) : ∀ q ∈ i, q.live.length ≤ m + 1 := made_len [x] j i m h (by rw [Jo.made, ha]; rfl)
/-- What holds at the head of each round. -/
structure TJ (w0 wr : World) (jb k : Nat) (p0 p1 p2 p3 : Pv) (j : Jo.Jn) : Prop where
  box : Bx wr jb 27 #[.int .i64 p0.g, .int .i64 p0.b, .slice p0.A p0.n p0.c, .int .i64 p1.g, .int .i64 p1.b, .slice p1.A p1.n p1.c, .int .i64 p2.g, .int .i64 p2.b, .slice p2.A p2.n p2.c, .int .i64 p3.g, .int .i64 p3.b, .slice p3.A p3.n p3.c]
  jv : Jv wr p0 p1 p2 p3 j
  ok : Jo.Ok j
  len : ∀ q ∈ j, q.live.length ≤ k
  bel : Below w0.heap.size w0 wr
theorem TJ.below {w0 wr w' : World} {jb k : Nat} {p0 p1 p2 p3 : Pv} {j : Jo.Jn} (h : TJ w0 wr jb k p0 p1 p2 p3 j) (hb : Below wr.heap.size wr w') : TJ w0 w' jb k p0 p1 p2 p3 j :=
  ⟨h.box.below h.box.lt hb, h.jv.below hb, h.ok, h.len, h.bel.trans (hb.mono h.bel.size)⟩
theorem TJ.below' {w0 wr w' : World} {jb k : Nat} {p0 p1 p2 p3 : Pv} {j : Jo.Jn} (h : TJ w0 wr jb k p0 p1 p2 p3 j) (hb : Below wr.heap.size wr w') : TJ w0 w' jb k p0 p1 p2 p3 j := h.below hb
set_option maxHeartbeats 16000000 in
theorem journalTiles_walk (A : Option Addr) (n c : Nat) (l : List En) (w : World) (hE : Es w A n c l) :
    Calls Try.prog 3 #[.slice A n c] w fun e w' => e = .returned (.bool true) ∧ Below w.heap.size w w' := by
  have Ca := Lib.hid (awake_any w)
  have HN := Lib.hid hE.len
  have hcap := hE.cap
  have hmax := hE.max
  unfold maxLen at hmax
  have HE0 := Lib.hid hE
  clear hE
  go_enter Try.func3, Try.ntmps3
  go_wp2_with fail
  refine Ca.out.mono ?_
  rintro e w2 ⟨rfl, hB2⟩
  have B2 := Lib.hid hB2
  have HE := Lib.hid (HE0.out.below hB2)
  clear hB2 HE0
  by_cases hn60 : n ≤ 60
  · have hnI : ¬ (60 : Int) < (n : Int) := by omega
    have hnD : decide ((60 : Int) < (n : Int)) = false := by simp; omega
    have al := (Below.refl w2.heap.size w2).alloc (Nat.le_refl _) (.cells #[.int .i64 0, .int .i64 0, .slice none 0 0, .int .i64 0, .int .i64 0, .slice none 0 0, .int .i64 0, .int .i64 0, .slice none 0 0, .int .i64 0, .int .i64 0, .slice none 0 0] 27)
    have jb := Bx.new w2 27 #[.int .i64 0, .int .i64 0, .slice none 0 0, .int .i64 0, .int .i64 0, .slice none 0 0, .int .i64 0, .int .i64 0, .slice none 0 0, .int .i64 0, .int .i64 0, .slice none 0 0]
    obtain ⟨w3, hw3⟩ : ∃ w3, w3 = w2.alloc (.cells #[.int .i64 0, .int .i64 0, .slice none 0 0, .int .i64 0, .int .i64 0, .slice none 0 0, .int .i64 0, .int .i64 0, .slice none 0 0, .int .i64 0, .int .i64 0, .slice none 0 0] 27) := ⟨_, rfl⟩
    rw [← hw3] at al jb
    have I0 : Hid (TJ w2 w3 w2.heap.size 0 default default default default Jo.nil_) := Lib.hid ⟨jb, jv_nil w3, Jo.ok_nil, fun q hq => by simp [Jo.nil_, default] at hq; rw [hq]; simp, al⟩
    have Hw3 := Lib.hid hw3
    clear al jb hw3
    go_upto_region 5 with fail
    rw [← Hw3.out]
    go_wp2_with fail
    go_loopw [5, 6, 7, 8, 9, 10, 11, 12] (fun i _ _ _ _ _ _ _ wr => ∃ k : Nat, i = .int .i64 k ∧ k ≤ n ∧ ∃ p0 p1 p2 p3 j, Hid (TJ w2 wr w2.heap.size k p0 p1 p2 p3 j)) (fun i _ _ _ _ _ _ _ _ => n - (intOf i).toNat)
    case atStart => exact ⟨0, rfl, Nat.zero_le _, _, _, _, _, _, I0⟩
    case round =>
      obtain ⟨k, rfl, hk, p0, p1, p2, p3, j, hI⟩ := hrel
      by_cases hlt : k < n
      · have hkI : (k : Int) < (n : Int) := by omega
        have hkl : k < l.length := by rw [← HN.out]; exact hlt
        obtain ⟨x, hx⟩ : ∃ x, x = l.getD k default := ⟨_, rfl⟩
        obtain ⟨lb, lf, hA, hlb, u0, u1, u2, u3, u4, u5, u6, -⟩ := (HE.out.below hI.out.bel).cells hkl hx
        have ZE := Lib.hid (nine u0 u1 u2 u3 u4 u5 u6 hlb)
        have Z0 := Lib.hid (fun w' h => And.intro (twelve (hI.out.box.below hI.out.box.lt h)).1 (ZE.out w' h))
        have LN := jv_len (m := 400000) hI.out.jv (fun q hq => by have := hI.out.len q hq; omega)
        have CA := Lib.hid (fun w' (h : Below wr.heap.size wr w') => apply_any p0 p1 p2 p3 j x w' (hI.out.jv.below h) LN)
        subst hA
        clear u0 u1 u2 u3 u4 u5 u6 hlb hx hkl LN
        go_upto_region 8 with fail
        go_cut [6, 7] (fun u6 u7 wc => Got wr j x u6 u7 wc)
        case first =>
          have bA : Below wr.heap.size wr wr.drew := (Below.refl _ _).drew
          have bB : Below wr.heap.size wr (wr.alloc (.cells #[.int .i64 0, .int .i64 0, .slice none 0 0, .int .i64 0, .int .i64 0, .slice none 0 0, .int .i64 0, .int .i64 0, .slice none 0 0, .int .i64 0, .int .i64 0, .slice none 0 0] 27)).drew := ((Below.refl wr.heap.size wr).alloc (Nat.le_refl _) _).drew
          have z10 := Z0.out _ bA
          have z11 := Z0.out _ bB
          have nB : Bx (wr.alloc (.cells #[.int .i64 0, .int .i64 0, .slice none 0 0, .int .i64 0, .int .i64 0, .slice none 0 0, .int .i64 0, .int .i64 0, .slice none 0 0, .int .i64 0, .int .i64 0, .slice none 0 0] 27)).drew wr.heap.size 27 #[.int .i64 0, .int .i64 0, .slice none 0 0, .int .i64 0, .int .i64 0, .slice none 0 0, .int .i64 0, .int .i64 0, .slice none 0 0, .int .i64 0, .int .i64 0, .slice none 0 0] := Bx.new wr _ _
          go_region_held3 (fun w' => (w'.cell? ⟨w2.heap.size, 0, none⟩ = some (.int .i64 p0.g) ∧ w'.cell? ⟨w2.heap.size, 1, none⟩ = some (.int .i64 p0.b) ∧ w'.cell? ⟨w2.heap.size, 2, none⟩ = some (.slice p0.A p0.n p0.c) ∧ w'.cell? ⟨w2.heap.size, 3, none⟩ = some (.int .i64 p1.g) ∧ w'.cell? ⟨w2.heap.size, 4, none⟩ = some (.int .i64 p1.b) ∧ w'.cell? ⟨w2.heap.size, 5, none⟩ = some (.slice p1.A p1.n p1.c) ∧ w'.cell? ⟨w2.heap.size, 6, none⟩ = some (.int .i64 p2.g) ∧ w'.cell? ⟨w2.heap.size, 7, none⟩ = some (.int .i64 p2.b) ∧ w'.cell? ⟨w2.heap.size, 8, none⟩ = some (.slice p2.A p2.n p2.c) ∧ w'.cell? ⟨w2.heap.size, 9, none⟩ = some (.int .i64 p3.g) ∧ w'.cell? ⟨w2.heap.size, 10, none⟩ = some (.int .i64 p3.b) ∧ w'.cell? ⟨w2.heap.size, 11, none⟩ = some (.slice p3.A p3.n p3.c)) ∧ (w'.cell? ⟨lb, lf + k * 7, none⟩ = some (.int .i64 x.kind) ∧ w'.cell? ⟨lb, lf + k * 7 + 1, none⟩ = some (.int .i64 x.part) ∧ w'.cell? ⟨lb, lf + k * 7 + 2, none⟩ = some (.int .i64 x.id) ∧ w'.cell? ⟨lb, lf + k * 7 + 3, none⟩ = some (.int .i64 x.st) ∧ w'.cell? ⟨lb, lf + k * 7 + 4, none⟩ = some (.int .i64 x.en) ∧ w'.cell? ⟨lb, lf + k * 7 + 5, none⟩ = some (.int .i64 x.size) ∧ w'.cell? ⟨lb, lf + k * 7 + 6, none⟩ = some (.int .i64 x.sum))) (with_reducible first | exact z10 | exact z11 | exact z12 | exact z13 | exact z14 | exact z15) (first
            | (go_at_call 7; (with_reducible refine (CA.out _ bA).mono ?_); rintro e w1 ⟨q0, q1, q2, q3, rfl, hJ1, hB1⟩; have z12 := Z0.out _ (bA.trans (hB1.mono bA.size)); have z13 := Z0.out _ ((bA.trans (hB1.mono bA.size)).alloc (Nat.le_trans bA.size hB1.size) (.cells #[.int .i64 0, .int .i64 0, .slice none 0 0, .int .i64 0, .int .i64 0, .slice none 0 0, .int .i64 0, .int .i64 0, .slice none 0 0, .int .i64 0, .int .i64 0, .slice none 0 0] 27)); have z14 := Z0.out _ ((bA.trans (hB1.mono bA.size)).alloc (Nat.le_trans bA.size hB1.size) (.cells #[.int .i64 q0.g, .int .i64 q0.b, .slice q0.A q0.n q0.c, .int .i64 q1.g, .int .i64 q1.b, .slice q1.A q1.n q1.c, .int .i64 q2.g, .int .i64 q2.b, .slice q2.A q2.n q2.c, .int .i64 q3.g, .int .i64 q3.b, .slice q3.A q3.n q3.c] 27)))
            | (go_at_call 7; (with_reducible refine (CA.out _ bB).mono ?_); rintro e w1 ⟨q0, q1, q2, q3, rfl, hJ1, hB1⟩; have bB1 := bB.trans (hB1.mono bB.size); have z12 := Z0.out _ bB1; have nB1 := nB.below nB.lt hB1; obtain ⟨⟨nd0, nd1, nd2, nd3, nd4, nd5, nd6, nd7, nd8, nd9, nd10, nd11⟩, ⟨nf0, nf1, nf2, nf3, nf4, nf5, nf6, nf7, nf8, nf9, nf10, nf11⟩⟩ := twelve nB1; have z15 := Z0.out _ (below12' bB1 (.int .i64 q0.g) (.int .i64 q0.b) (.slice q0.A q0.n q0.c) (.int .i64 q1.g) (.int .i64 q1.b) (.slice q1.A q1.n q1.c) (.int .i64 q2.g) (.int .i64 q2.b) (.slice q2.A q2.n q2.c) (.int .i64 q3.g) (.int .i64 q3.b) (.slice q3.A q3.n q3.c))))
          all_goals (
            go_wp2_with fail
            go_meet)
          · exact got_a hJ1 bA.size (bA.trans (hB1.mono bA.size))
          · exact got_b hJ1 bB.size nB1 bB1
        case rest =>
          obtain ⟨bk, q0, q1, q2, q3, rfl, rfl, hG⟩ := hcut
          obtain ⟨z, hz⟩ : ∃ z, z = Jo.appE j x := ⟨_, rfl⟩
          rw [← hz]
          have Hz := Lib.hid hz
          clear hz ZE Z0 CA
          go_upto_if 41 with fail
          go_cut [40] (fun _ wz => ∃ r0 r1 r2 r3 i, Hid (TJ w2 wz w2.heap.size (k + 1) r0 r1 r2 r3 i))
          case first =>
            cases hr : Jo.app j x with
            | none =>
              have er := appE_none hr
              rw [← Hz.out] at er
              have k1 : (z == 0) = false := by simp; omega
              have T9 := Lib.hid (hI.out.below hG.out.2.2.1)
              clear er hr
              go_wp2_with fail
              go_meet
              exact ⟨p0, p1, p2, p3, j, Lib.hid ⟨T9.out.box, T9.out.jv, T9.out.ok, fun q hq => by have := T9.out.len q hq; omega, T9.out.bel⟩⟩
            | some i =>
              have er := appE_some hr
              rw [← Hz.out] at er
              have k1 : (z == 0) = true := by rw [er]; rfl
              have hG2 := hG.out
              rw [hr] at hG2
              have hJ9 : Jv _ q0 q1 q2 q3 i := hG2.2.1
              have J9 := Lib.hid hJ9
              have T9 := Lib.hid (hI.out.below hG.out.2.2.1)
              have LI := Lib.hid (app_len' hI.out.len hr)
              have OI := Lib.hid (Jo.app_ok hI.out.ok hr)
              obtain ⟨⟨d0, d1, d2, d3, d4, d5, d6, d7, d8, d9, d10, d11⟩, -⟩ := twelve hG.out.1
              obtain ⟨⟨e0, e1, e2, e3, e4, e5, e6, e7, e8, e9, e10, e11⟩, ⟨f0, f1, f2, f3, f4, f5, f6, f7, f8, f9, f10, f11⟩⟩ := twelve T9.out.box
              have hne : bk ≠ w2.heap.size := by have := hI.out.box.lt; have := hG.out.2.2.2.1; omega
              clear hr er hG2 hJ9
              go_wp2_with fail
              go_meet
              exact ⟨q0, q1, q2, q3, i, Lib.hid ⟨bx_set12 T9.out.box, jv_set J9.out T9.out.box, OI.out, LI.out, below12' T9.out.bel _ _ _ _ _ _ _ _ _ _ _ _⟩⟩
          case rest =>
            obtain ⟨r0, r1, r2, r3, i, hT⟩ := hcut
            go_wp2_with fail
            go_loopw [8, 9, 10, 11, 12] (fun u _ _ _ _ wv => ∃ m : Nat, u = .int .i64 m ∧ m ≤ 4 ∧ Hid (Below wc.heap.size wc wv)) (fun u _ _ _ _ _ => 4 - (intOf u).toNat)
            case atStart => exact ⟨0, rfl, Nat.zero_le _, Lib.hid (Below.refl _ _)⟩
            case round =>
              obtain ⟨m, rfl, hm, hV⟩ := hrel
              by_cases hm4 : m < 4
              · have hmI : (m : Int) < 4 := by omega
                obtain ⟨q, hq⟩ : ∃ q, q = sel r0 r1 r2 r3 m := ⟨_, rfl⟩
                have hs := (hT.out.jv.sel m).1
                have hpt := pt_sel (p0 := r0) (p1 := r1) (p2 := r2) (p3 := r3) hm4
                rw [← hT.out.jv.e] at hpt
                have hok := hT.out.ok.2 m hm4
                rw [hpt] at hok
                obtain ⟨c0, c1, c2, -, -, -⟩ := (jv_pc (hT.out.jv.below hV.out) (hT.out.box.below hT.out.box.lt hV.out) hm4).cells
                rw [← hq] at hs hok c0 c1 c2 hpt
                have HS := Lib.hid hs
                have HO := Lib.hid hok
                have HP := Lib.hid hpt
                have hqc := hs.cap
                have hqm := hs.max
                unfold maxLen at hqm
                have PC := Lib.hid (fun w' (h : Below wc.heap.size wc w') => by
                  have := (jv_pc (hT.out.jv.below h) (hT.out.box.below hT.out.box.lt h) hm4).cells.2.2.1
                  rw [← hq] at this
                  exact this)
                clear hs hok hpt hq
                go_wp2_with fail
                clear c0 c1 c2
                go_loopw [9, 10, 11, 12] (fun u9 u10 u11 _ wv => ∃ s : Nat, u11 = .int .i64 s ∧ s ≤ q.n ∧ u9 = .int .i64 (eo q s) ∧ u10 = .int .i64 (la q s) ∧ Hid (Below wc.heap.size wc wv)) (fun _ _ u11 _ _ => q.n - (intOf u11).toNat)
                case atStart => exact ⟨0, rfl, Nat.zero_le _, by rw [eo_zero], by rw [la_zero], hV⟩
                case round =>
                  obtain ⟨s, rfl, hs, rfl, rfl, hS⟩ := hrel
                  have c2 := PC.out _ hS.out
                  by_cases hsn : s < q.n
                  · have hsI : (s : Int) < (q.n : Int) := by omega
                    have hsl : s < q.l.length := by rw [← HS.out.len]; exact hsn
                    obtain ⟨y, hy⟩ : ∃ y, y = q.l.getD s default := ⟨_, rfl⟩
                    obtain ⟨g1, g2, g3, g4, g5⟩ := seg_at HO.out hsl
                    have ge := eo_next hsl
                    have gl := la_next hsl
                    obtain ⟨eb, ef, hA2, hebl, v0, v1, v2, v3, v4, v5, v6, -⟩ := (HS.out.below hS.out).cells hsl hy
                    rw [← hy] at g1 g2 g3 g4 g5 ge gl
                    obtain ⟨E, hE⟩ : ∃ E, E = eo q s := ⟨_, rfl⟩
                    obtain ⟨I, hI2⟩ : ∃ I, I = la q s := ⟨_, rfl⟩
                    rw [← hE] at g4 ⊢
                    rw [← hI2] at g3 ⊢
                    have i1 := g5.1.2.2.1
                    have i2 := g5.1.2.2.2
                    have I0 : 0 ≤ I := by omega
                    have I1 : I ≤ 1073741823 := by omega
                    have t1 : (y.st == E) = true := by simpa using g4
                    have t1' : (y.st != E) = false := by simpa using g4
                    have t2 : (y.id == I + 1) = true := by simpa using g3
                    have t2' : (y.id != I + 1) = false := by simpa using g3
                    have t3 : (y.part == (m : Int)) = true := by simpa using g2
                    have t3' : (y.part != (m : Int)) = false := by simpa using g2
                    have t4 : (y.kind == 1) = true := by simpa using g1
                    have t4' : (y.kind != 1) = false := by simpa using g1
                    have GE := Lib.hid ge
                    have GL := Lib.hid gl
                    have hB := Lib.hid (hS.out.alloc hS.out.size (.cells #[.int .i64 y.kind, .int .i64 y.part, .int .i64 y.id, .int .i64 y.st, .int .i64 y.en, .int .i64 y.size, .int .i64 y.sum] 32))
                    rw [hA2] at c2
                    clear hy hsl hE hI2 g1 g2 g3 g4 g5 ge gl hA2 i1 i2
                    go_wp2_with fail
                    go_roundw
                    case rel => exact ⟨s + 1, by go_num, by omega, by rw [GE.out], by rw [GL.out], hB⟩
                    case measure => simp [intOf]; omega
                  · have hsI : ¬ (s : Int) < (q.n : Int) := by omega
                    obtain rfl : s = q.n := by omega
                    obtain ⟨⟨d0, d1, d2, d3, d4, d5, d6, d7, d8, d9, d10, d11⟩, -⟩ := twelve (hT.out.box.below hT.out.box.lt hS.out)
                    have Ce := end_any r0 r1 r2 r3 i (m : Int) _ (hT.out.jv.below hS.out) (by omega) (by omega)
                    rw [Int.toNat_natCast, HP.out, ← eo_all, ← HS.out.len] at Ce
                    have Ce := Lib.hid Ce
                    have Cl := fun w' (h : Below wc.heap.size wc w') => last_any r0 r1 r2 r3 i (m : Int) w' (hT.out.jv.below h) (by omega) (by omega)
                    rw [Int.toNat_natCast, HP.out, ← la_all, ← HS.out.len] at Cl
                    have Cl := Lib.hid Cl
                    obtain ⟨E, hE⟩ : ∃ E, E = eo q q.n := ⟨_, rfl⟩
                    obtain ⟨I, hI2⟩ : ∃ I, I = la q q.n := ⟨_, rfl⟩
                    rw [← hE] at Ce ⊢
                    rw [← hI2] at Cl ⊢
                    have t1 : (E == E) = true := by simp
                    have t1' : (E != E) = false := by simp
                    have t2 : (I == I) = true := by simp
                    have t2' : (I != I) = false := by simp
                    clear hE hI2
                    go_wp2_with fail
                    refine Ce.out.mono ?_
                    rintro e w5 ⟨rfl, hB5⟩
                    have hb5 := hS.out.trans (hB5.mono hS.out.size)
                    have HB5 := Lib.hid hb5
                    clear d0 d1 d2 d3 d4 d5 d6 d7 d8 d9 d10 d11
                    obtain ⟨⟨d0, d1, d2, d3, d4, d5, d6, d7, d8, d9, d10, d11⟩, -⟩ := twelve (hT.out.box.below hT.out.box.lt hb5)
                    clear hB5 hb5
                    go_wp2_with fail
                    refine (Cl.out _ HB5.out).mono ?_
                    rintro e w6 ⟨rfl, hB6⟩
                    have HB6 := Lib.hid (HB5.out.trans (hB6.mono HB5.out.size))
                    clear hB6 d0 d1 d2 d3 d4 d5 d6 d7 d8 d9 d10 d11
                    go_wp2_with fail
                    go_roundw
                    case rel => exact ⟨m + 1, by go_num, by omega, HB6⟩
                    case measure => simp [intOf]; omega
              · have hmI : ¬ (m : Int) < 4 := by omega
                have HT9 := Lib.hid (TJ.below' hT.out hV.out)
                go_wp2_with fail
                go_roundw
                case rel => exact ⟨k + 1, by go_num, by omega, r0, r1, r2, r3, i, HT9⟩
                case measure => simp [intOf]; omega
      · have hkI : ¬ (k : Int) < (n : Int) := by omega
        have ln := jv_len (m := 60) hI.out.jv (fun q hq => by have := hI.out.len q hq; omega)
        have hel := upTo_len hI.out.jv ln 4 (by omega)
        rw [upTo_all] at hel
        have HEL := Lib.hid hel
        have CE := Lib.hid (entries_any p0 p1 p2 p3 j wr hI.out.jv (by obtain ⟨a, b, c, d⟩ := ln; exact ⟨by omega, by omega, by omega, by omega⟩))
        have HM := Lib.hid (Jo.made_entries hI.out.ok)
        obtain ⟨⟨d0, d1, d2, d3, d4, d5, d6, d7, d8, d9, d10, d11⟩, -⟩ := twelve hI.out.box
        clear ln hel
        go_wp2_with fail
        refine CE.out.mono ?_
        rintro e w5 ⟨A5, n5, c5, rfl, hE5, hB5⟩
        have CM := Lib.hid (made_any A5 n5 c5 (Jo.entries j) w5 hE5 (by rw [hE5.len]; have := HEL.out; omega))
        have HB5 := Lib.hid hB5
        clear hE5 hB5 d0 d1 d2 d3 d4 d5 d6 d7 d8 d9 d10 d11
        go_wp2_with fail
        refine CM.out.mono ?_
        rintro e w6 ⟨q0, q1, q2, q3, ok, rfl, hok, hno, hB6⟩
        cases ok with
        | false =>
          have := hno rfl
          rw [HM.out] at this
          cases this
        | true =>
          obtain ⟨j6, hm6, hJ6⟩ := hok rfl
          rw [HM.out] at hm6
          cases hm6
          have hb6 := HB5.out.trans (hB6.mono HB5.out.size)
          have hb67 := (Below.refl w6.heap.size w6).alloc (Nat.le_refl _) (.cells #[.int .i64 q0.g, .int .i64 q0.b, .slice q0.A q0.n q0.c, .int .i64 q1.g, .int .i64 q1.b, .slice q1.A q1.n q1.c, .int .i64 q2.g, .int .i64 q2.b, .slice q2.A q2.n q2.c, .int .i64 q3.g, .int .i64 q3.b, .slice q3.A q3.n q3.c] 27)
          have hb7 := hb6.trans (hb67.mono hb6.size)
          have kb := Bx.new w6 27 #[.int .i64 q0.g, .int .i64 q0.b, .slice q0.A q0.n q0.c, .int .i64 q1.g, .int .i64 q1.b, .slice q1.A q1.n q1.c, .int .i64 q2.g, .int .i64 q2.b, .slice q2.A q2.n q2.c, .int .i64 q3.g, .int .i64 q3.b, .slice q3.A q3.n q3.c]
          obtain ⟨w7, hw7⟩ : ∃ w7, w7 = w6.alloc (.cells #[.int .i64 q0.g, .int .i64 q0.b, .slice q0.A q0.n q0.c, .int .i64 q1.g, .int .i64 q1.b, .slice q1.A q1.n q1.c, .int .i64 q2.g, .int .i64 q2.b, .slice q2.A q2.n q2.c, .int .i64 q3.g, .int .i64 q3.b, .slice q3.A q3.n q3.c] 27) := ⟨_, rfl⟩
          rw [← hw7] at hb67 hb7 kb
          have T7 := Lib.hid (hI.out.below hb7)
          have J7 := Lib.hid (hJ6.below hb67)
          have KB := Lib.hid kb
          have Hw7 := Lib.hid hw7
          have pe := T7.out.jv.e
          rw [J7.out.e] at pe
          simp only [List.cons.injEq, and_true] at pe
          obtain ⟨e0, e1, e2, e3⟩ := pe
          have CS := Lib.hid (same_pt q0 q1 q2 q3 p0 p1 p2 p3 w7 e0.symm e1.symm e2.symm e3.symm J7.out.s0 J7.out.s1 J7.out.s2 J7.out.s3 T7.out.jv.s0 T7.out.jv.s1 T7.out.jv.s2 T7.out.jv.s3)
          clear hok hno hB6 hb6 hb67 hb7 kb hw7 hJ6 e0 e1 e2 e3
          obtain ⟨⟨d0, d1, d2, d3, d4, d5, d6, d7, d8, d9, d10, d11⟩, -⟩ := twelve KB.out
          obtain ⟨⟨f0, f1, f2, f3, f4, f5, f6, f7, f8, f9, f10, f11⟩, -⟩ := twelve T7.out.box
          go_upto_region 27 with fail
          rw [← Hw7.out]
          go_wp2_with fail
          refine CS.out.mono ?_
          rintro e w8 ⟨rfl, hB8⟩
          have B8 := Lib.hid (B2.out.trans ((T7.out.bel.trans (hB8.mono T7.out.bel.size)).mono B2.out.size))
          clear hB8
          go_wp2_with fail
          go_ret
          exact ⟨rfl, B8.out⟩
  · have hnI : (60 : Int) < (n : Int) := by omega
    go_wp2_with fail
    go_ret
    exact ⟨rfl, B2.out⟩
end Lw
end Go.Proofs.Ytljgalleiemaaaa
