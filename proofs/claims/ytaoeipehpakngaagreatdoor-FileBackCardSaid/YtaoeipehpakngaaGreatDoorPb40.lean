/- What strconv.Itoa and strconv.Atoi are at this program: the numbers of what the library speaks of, as its contracts ask them. Package file: the name of the chapter's example, and what it tells. The reference of layer 12: after. -/
import Derived.Shelf.Strconv.Itoa3
import Derived.Shelf.Strconv.Atoi
import Derived.Ground.NamesProg
import Derived.Lib.Bytealg
import Derived.Lib.SmallJoins
import Derived.Deep.QuietTactic
import Derived.RegionTactic
import Derived.Lib.Hide
import Derived.StillTailTactics
import Derived.BigQuiet
import Derived.Test.YtaoeipehpakngaaGreatDoorProg
import Derived.Test.YtaoeipehpakngaaGreatDoorPb01
import Derived.Test.YtaoeipehpakngaaGreatDoorPb23
import Derived.Test.YtaoeipehpakngaaGreatDoorPb34
import Derived.Test.YtaoeipehpakngaaGreatDoorPb12
namespace Go.Proofs.YtaoeipehpakngaaGreatDoor
open Go.Shelf
def Tryz.itoaL_ren : Go.Shelf.Ren := ⟨fun | 171 => 40 | 243 => 79 | 246 => 125 | 283 => 174 | 284 => 175 | 285 => 176 | 286 => 177 | 129 => 210 | 317 => 209 | 318 => 211 | 319 => 212 | 320 => 213 | 337 => 244 | 338 => 245 | n => n, fun | 3 => 3 | 9 => 9 | 2 => 2 | 4 => 4 | 171 => 199 | 0 => 0 | 53 => 131 | 37 => 32 | 5 => 5 | 173 => 202 | 212 => 235 | 51 => 83 | 20 => 20 | 213 => 236 | 46 => 134 | 232 => 279 | 233 => 280 | n => n, fun | 17 => 3 | 18 => 4 | 19 => 5 | n => n⟩
theorem Tryz.itoaL : Go.Proofs.Lays.n171 Tryz.prog Tryz.itoaL_ren := {
  mixed := by kernel_rfl
  f129 := Tryz.func210.trans (congrArg some (by kernel_rfl))
  f171 := Tryz.func40.trans (congrArg some (by kernel_rfl))
  f243 := Tryz.func79.trans (congrArg some (by kernel_rfl))
  f246 := Tryz.func125.trans (congrArg some (by kernel_rfl))
  f283 := Tryz.func174.trans (congrArg some (by kernel_rfl))
  f284 := Tryz.func175.trans (congrArg some (by kernel_rfl))
  f285 := Tryz.func176.trans (congrArg some (by kernel_rfl))
  f286 := Tryz.func177.trans (congrArg some (by kernel_rfl))
  f317 := Tryz.func209.trans (congrArg some (by kernel_rfl))
  f318 := Tryz.func211.trans (congrArg some (by kernel_rfl))
  f319 := Tryz.func212.trans (congrArg some (by kernel_rfl))
  f320 := Tryz.func213.trans (congrArg some (by kernel_rfl))
  f337 := Tryz.func244.trans (congrArg some (by kernel_rfl))
  f338 := Tryz.func245.trans (congrArg some (by kernel_rfl))
  t0 := Tryz.underlying0
  a0 := Tryz.isAgg0
  z0 := Tryz.sizeOf0
  v0 := Tryz.zeroValue0
  t2 := Tryz.underlying2
  a2 := Tryz.isAgg2
  z2 := Tryz.sizeOf2
  v2 := Tryz.zeroValue2
  t3 := Tryz.underlying3
  a3 := Tryz.isAgg3
  z3 := Tryz.sizeOf3
  v3 := Tryz.zeroValue3
  t4 := Tryz.underlying4
  a4 := Tryz.isAgg4
  z4 := Tryz.sizeOf4
  v4 := Tryz.zeroValue4
  t5 := Tryz.underlying5
  a5 := Tryz.isAgg5
  z5 := Tryz.sizeOf5
  v5 := Tryz.zeroValue5
  t9 := Tryz.underlying9
  a9 := Tryz.isAgg9
  z9 := Tryz.sizeOf9
  v9 := Tryz.zeroValue9
  t20 := Tryz.underlying20
  a20 := Tryz.isAgg20
  z20 := Tryz.sizeOf20
  v20 := Tryz.zeroValue20
  t37 := Tryz.underlying32
  a37 := Tryz.isAgg32
  z37 := Tryz.sizeOf32
  v37 := Tryz.zeroValue32
  t46 := Tryz.underlying134
  a46 := Tryz.isAgg134
  z46 := Tryz.sizeOf134
  v46 := Tryz.zeroValue134
  t51 := Tryz.underlying83
  a51 := Tryz.isAgg83
  z51 := Tryz.sizeOf83
  v51 := Tryz.zeroValue83
  t53 := Tryz.underlying131
  a53 := Tryz.isAgg131
  z53 := Tryz.sizeOf131
  v53 := Tryz.zeroValue131
  t171 := Tryz.underlying199
  a171 := Tryz.isAgg199
  z171 := Tryz.sizeOf199
  v171 := Tryz.zeroValue199
  t173 := Tryz.underlying202
  a173 := Tryz.isAgg202
  z173 := Tryz.sizeOf202
  v173 := Tryz.zeroValue202
  t212 := Tryz.underlying235
  a212 := Tryz.isAgg235
  z212 := Tryz.sizeOf235
  v212 := Tryz.zeroValue235
  t213 := Tryz.underlying236
  a213 := Tryz.isAgg236
  z213 := Tryz.sizeOf236
  t232 := Tryz.underlying279
  a232 := Tryz.isAgg279
  z232 := Tryz.sizeOf279
  v232 := Tryz.zeroValue279
  t233 := Tryz.underlying280
  a233 := Tryz.isAgg280
  z233 := Tryz.sizeOf280
  v233 := Tryz.zeroValue280
  g17 := by kernel_rfl
  g18 := by kernel_rfl
  g19 := by kernel_rfl }
def Tryz.atoiL_ren : Go.Shelf.Ren := ⟨fun | 172 => 38 | 244 => 77 | 245 => 78 | 247 => 120 | 279 => 121 | 280 => 122 | 281 => 123 | 282 => 124 | 287 => 171 | 316 => 172 | 171 => 40 | 205 => 173 | 321 => 207 | 322 => 208 | 243 => 79 | 246 => 125 | 283 => 174 | 284 => 175 | 285 => 176 | 286 => 177 | 129 => 210 | 317 => 209 | 318 => 211 | 319 => 212 | 320 => 213 | 337 => 244 | 338 => 245 | n => n, fun | 9 => 9 | 3 => 3 | 75 => 77 | 76 => 78 | 4 => 4 | 5 => 5 | 167 => 164 | 37 => 32 | 0 => 0 | 85 => 165 | 2 => 2 | 168 => 167 | 53 => 131 | 175 => 193 | 46 => 134 | 210 => 197 | 127 => 230 | 145 => 233 | 143 => 231 | 21 => 21 | 171 => 199 | 173 => 202 | 212 => 235 | 51 => 83 | 20 => 20 | 213 => 236 | 232 => 279 | 233 => 280 | 80 => 293 | n => n, fun | 15 => 1 | 16 => 2 | 17 => 3 | 18 => 4 | 19 => 5 | n => n⟩
theorem Tryz.atoiL : Go.Proofs.Lays.n172 Tryz.prog Tryz.atoiL_ren := {
  mixed := by kernel_rfl
  f129 := Tryz.func210.trans (congrArg some (by kernel_rfl))
  f171 := Tryz.func40.trans (congrArg some (by kernel_rfl))
  f172 := Tryz.func38.trans (congrArg some (by kernel_rfl))
  f205 := Tryz.func173.trans (congrArg some (by kernel_rfl))
  f243 := Tryz.func79.trans (congrArg some (by kernel_rfl))
  f244 := Tryz.func77.trans (congrArg some (by kernel_rfl))
  f245 := Tryz.func78.trans (congrArg some (by kernel_rfl))
  f246 := Tryz.func125.trans (congrArg some (by kernel_rfl))
  f247 := Tryz.func120.trans (congrArg some (by kernel_rfl))
  f279 := Tryz.func121.trans (congrArg some (by kernel_rfl))
  f280 := Tryz.func122.trans (congrArg some (by kernel_rfl))
  f281 := Tryz.func123.trans (congrArg some (by kernel_rfl))
  f282 := Tryz.func124.trans (congrArg some (by kernel_rfl))
  f283 := Tryz.func174.trans (congrArg some (by kernel_rfl))
  f284 := Tryz.func175.trans (congrArg some (by kernel_rfl))
  f285 := Tryz.func176.trans (congrArg some (by kernel_rfl))
  f286 := Tryz.func177.trans (congrArg some (by kernel_rfl))
  f287 := Tryz.func171.trans (congrArg some (by kernel_rfl))
  f316 := Tryz.func172.trans (congrArg some (by kernel_rfl))
  f317 := Tryz.func209.trans (congrArg some (by kernel_rfl))
  f318 := Tryz.func211.trans (congrArg some (by kernel_rfl))
  f319 := Tryz.func212.trans (congrArg some (by kernel_rfl))
  f320 := Tryz.func213.trans (congrArg some (by kernel_rfl))
  f321 := Tryz.func207.trans (congrArg some (by kernel_rfl))
  f322 := Tryz.func208.trans (congrArg some (by kernel_rfl))
  f337 := Tryz.func244.trans (congrArg some (by kernel_rfl))
  f338 := Tryz.func245.trans (congrArg some (by kernel_rfl))
  t0 := Tryz.underlying0
  a0 := Tryz.isAgg0
  z0 := Tryz.sizeOf0
  v0 := Tryz.zeroValue0
  t2 := Tryz.underlying2
  a2 := Tryz.isAgg2
  z2 := Tryz.sizeOf2
  v2 := Tryz.zeroValue2
  t3 := Tryz.underlying3
  a3 := Tryz.isAgg3
  z3 := Tryz.sizeOf3
  v3 := Tryz.zeroValue3
  t4 := Tryz.underlying4
  a4 := Tryz.isAgg4
  z4 := Tryz.sizeOf4
  v4 := Tryz.zeroValue4
  t5 := Tryz.underlying5
  a5 := Tryz.isAgg5
  z5 := Tryz.sizeOf5
  v5 := Tryz.zeroValue5
  t9 := Tryz.underlying9
  a9 := Tryz.isAgg9
  z9 := Tryz.sizeOf9
  v9 := Tryz.zeroValue9
  t20 := Tryz.underlying20
  a20 := Tryz.isAgg20
  z20 := Tryz.sizeOf20
  v20 := Tryz.zeroValue20
  t21 := Tryz.underlying21
  a21 := Tryz.isAgg21
  z21 := Tryz.sizeOf21
  v21 := Tryz.zeroValue21
  t37 := Tryz.underlying32
  a37 := Tryz.isAgg32
  z37 := Tryz.sizeOf32
  v37 := Tryz.zeroValue32
  t46 := Tryz.underlying134
  a46 := Tryz.isAgg134
  z46 := Tryz.sizeOf134
  v46 := Tryz.zeroValue134
  t51 := Tryz.underlying83
  a51 := Tryz.isAgg83
  z51 := Tryz.sizeOf83
  v51 := Tryz.zeroValue83
  t53 := Tryz.underlying131
  a53 := Tryz.isAgg131
  z53 := Tryz.sizeOf131
  v53 := Tryz.zeroValue131
  t75 := Tryz.underlying77
  a75 := Tryz.isAgg77
  z75 := Tryz.sizeOf77
  v75 := Tryz.zeroValue77
  t76 := Tryz.underlying78
  a76 := Tryz.isAgg78
  z76 := Tryz.sizeOf78
  v76 := Tryz.zeroValue78
  t85 := Tryz.underlying165
  a85 := Tryz.isAgg165
  z85 := Tryz.sizeOf165
  v85 := Tryz.zeroValue165
  t127 := Tryz.underlying230
  a127 := Tryz.isAgg230
  z127 := Tryz.sizeOf230
  v127 := Tryz.zeroValue230
  t143 := Tryz.underlying231
  a143 := Tryz.isAgg231
  z143 := Tryz.sizeOf231
  v143 := Tryz.zeroValue231
  t145 := Tryz.underlying233
  a145 := Tryz.isAgg233
  z145 := Tryz.sizeOf233
  v145 := Tryz.zeroValue233
  t167 := Tryz.underlying164
  a167 := Tryz.isAgg164
  z167 := Tryz.sizeOf164
  v167 := Tryz.zeroValue164
  t168 := Tryz.underlying167
  a168 := Tryz.isAgg167
  z168 := Tryz.sizeOf167
  v168 := Tryz.zeroValue167
  t171 := Tryz.underlying199
  a171 := Tryz.isAgg199
  z171 := Tryz.sizeOf199
  v171 := Tryz.zeroValue199
  t173 := Tryz.underlying202
  a173 := Tryz.isAgg202
  z173 := Tryz.sizeOf202
  v173 := Tryz.zeroValue202
  t175 := Tryz.underlying193
  a175 := Tryz.isAgg193
  z175 := Tryz.sizeOf193
  v175 := Tryz.zeroValue193
  t210 := Tryz.underlying197
  a210 := Tryz.isAgg197
  z210 := Tryz.sizeOf197
  v210 := Tryz.zeroValue197
  t212 := Tryz.underlying235
  a212 := Tryz.isAgg235
  z212 := Tryz.sizeOf235
  v212 := Tryz.zeroValue235
  t213 := Tryz.underlying236
  a213 := Tryz.isAgg236
  z213 := Tryz.sizeOf236
  t232 := Tryz.underlying279
  a232 := Tryz.isAgg279
  z232 := Tryz.sizeOf279
  v232 := Tryz.zeroValue279
  t233 := Tryz.underlying280
  a233 := Tryz.isAgg280
  z233 := Tryz.sizeOf280
  v233 := Tryz.zeroValue280
  g15 := by kernel_rfl
  g16 := by kernel_rfl
  g17 := by kernel_rfl
  g18 := by kernel_rfl
  g19 := by kernel_rfl }
end Go.Proofs.YtaoeipehpakngaaGreatDoor
namespace Go.Proofs.YtaoeipehpakngaaGreatDoor
set_option maxRecDepth 100000
open Go.RowKit
namespace Fi
theorem itoa1 (w : World) : Calls Tryz.prog 40 #[.int .i64 1] w fun e w' => e = .returned (.string ⟨#[49]⟩) ∧ w' = w := by
  have h := Any.strconv_Itoa_small Tryz.itoaL 1 (by decide) w
  rw [show (Lib.decDigits 1).toArray = #[49] by simp [Lib.decDigits]] at h
  exact h
theorem itoa20 (w : World) : Calls Tryz.prog 40 #[.int .i64 20] w fun e w' => e = .returned (.string ⟨#[50, 48]⟩) ∧ w' = w := by
  have h := Any.strconv_Itoa_small Tryz.itoaL 20 (by decide) w
  rw [show (Lib.decDigits 20).toArray = #[50, 48] by simp [Lib.decDigits]] at h
  exact h
theorem atoi_of (s : ByteArray) (n : Int) (hl : s.size ≤ 18) (h : Lib.atoi s.data.toList = some n) (w : World) : Calls Tryz.prog 38 #[.string s] w fun e w' => e = .returned (.tuple #[.int .i64 n, .nilIface]) ∧ Below w.heap.size w w' :=
  (Any.strconv_Atoi Tryz.atoiL s n hl h w).mono fun _ w' ⟨h1, t, h2⟩ => ⟨h1, by rw [h2]; exact Joins.below_bytesWorld _ _ _ _ (Nat.le_refl _)⟩
set_option maxHeartbeats 1000000 in
theorem name_ex (w : World) : Calls Tryz.prog 17 #[.int .i64 1, .int .i64 20] w fun e w' => e = .returned (.string ⟨#[115, 49, 45, 50, 48]⟩) ∧ w' = w := by
  have C1 := Lib.hid fun w => itoa1 w
  have C2 := Lib.hid fun w => itoa20 w
  go_enter Tryz.func17, Tryz.ntmps17
  go_wp2_with fail
  refine (C1.out _).mono ?_
  rintro e w1 ⟨rfl, rfl⟩
  go_wp2_with fail
  refine (C2.out _).mono ?_
  rintro e w2 ⟨rfl, rfl⟩
  go_wp2_with fail
  go_ret
  exact ⟨rfl, rfl⟩
set_option maxHeartbeats 1000000 in
theorem hasPrefix_ex (w : World) : Calls Tryz.prog 119 #[.string ⟨#[115, 49, 45, 50, 48]⟩, .string ⟨#[115]⟩] w fun e w' => e = .returned (.bool true) ∧ w' = w := by
  have q : (((⟨#[115, 49, 45, 50, 48]⟩ : ByteArray).extract 0 1).toList == [115]) = true := by decide +kernel
  go_enter Tryz.func119, Tryz.ntmps119
  go_wp2_with fail
  go_ret
  exact ⟨by simp, rfl⟩
set_option maxHeartbeats 1000000 in
theorem trim_ex (w : World) : Calls Tryz.prog 37 #[.string ⟨#[115, 49, 45, 50, 48]⟩, .string ⟨#[115]⟩] w fun e w' => e = .returned (.string ⟨#[49, 45, 50, 48]⟩) ∧ w' = w := by
  have C1 := Lib.hid fun w => hasPrefix_ex w
  have C : ∀ w, Calls Tryz.prog 76 #[.string ⟨#[115, 49, 45, 50, 48]⟩, .string ⟨#[115]⟩] w fun e w' => e = .returned (.string ⟨#[49, 45, 50, 48]⟩) ∧ w' = w := fun w => by
    go_enter Tryz.func76, Tryz.ntmps76
    go_wp2_with fail
    refine (C1.out _).mono ?_
    rintro e w1 ⟨rfl, rfl⟩
    go_wp2_with fail
    go_ret
    exact ⟨rfl, rfl⟩
  have C := Lib.hid C
  go_enter Tryz.func37, Tryz.ntmps37
  go_wp2_with fail
  refine (C.out _).mono ?_
  rintro e w1 ⟨rfl, rfl⟩
  go_wp2_with fail
  go_ret
  exact ⟨rfl, rfl⟩
set_option maxHeartbeats 1000000 in
theorem indexByte_ex (w : World) : Calls Tryz.prog 167 #[.string ⟨#[49, 45, 50, 48]⟩, .int .u8 45] w fun e w' => e = .returned (.int .i64 1) ∧ w' = w := by
  go_enter Tryz.func167, Tryz.ntmps167
  go_wp2
  rw [run_callFunc_extern Tryz.func205 (by kernel_rfl) (by kernel_rfl) (by kernel_rfl) (e := Extern.BytealgIndexByte.indexByte) (by kernel_rfl), Lib.run_indexByteString]
  simp only [Result.andThen]
  rw [Oper.upon_value]
  go_wp2
  go_ret
  exact ⟨rfl, rfl⟩
set_option maxHeartbeats 1000000 in
theorem index_ex (w : World) : Calls Tryz.prog 118 #[.string ⟨#[49, 45, 50, 48]⟩, .string ⟨#[45]⟩] w fun e w' => e = .returned (.int .i64 1) ∧ w' = w := by
  have C := Lib.hid fun w => indexByte_ex w
  go_enter Tryz.func118, Tryz.ntmps118
  go_wp2_with fail
  refine (C.out _).mono ?_
  rintro e w1 ⟨rfl, rfl⟩
  go_wp2_with fail
  go_ret
  exact ⟨rfl, rfl⟩
set_option maxHeartbeats 1000000 in
theorem cut_ex (w : World) : Calls Tryz.prog 75 #[.string ⟨#[49, 45, 50, 48]⟩, .string ⟨#[45]⟩] w fun e w' => e = .returned (.tuple #[.string ⟨#[49]⟩, .string ⟨#[50, 48]⟩, .bool true]) ∧ Below w.heap.size w w' := by
  have C := Lib.hid fun w => index_ex w
  go_enter Tryz.func75, Tryz.ntmps75
  go_wp2_with fail
  refine (C.out _).mono ?_
  rintro e w1 ⟨rfl, rfl⟩
  go_wp2_with fail
  go_region
  all_goals
    go_wp2_with fail
    go_ret3
    exact ⟨rfl, (Below.refl _ _).drew⟩
set_option maxHeartbeats 1000000 in
theorem parse_ex (w : World) : Calls Tryz.prog 16 #[.string ⟨#[115, 49, 45, 50, 48]⟩] w fun e w' => e = .returned (.tuple #[.int .i64 1, .int .i64 20, .bool true]) ∧ Below w.heap.size w w' := by
  have C1 := Lib.hid fun w => trim_ex w
  have C2 : ∀ w, Calls Tryz.prog 36 #[.string ⟨#[49, 45, 50, 48]⟩, .string ⟨#[45]⟩] w fun e w' => e = .returned (.tuple #[.string ⟨#[49]⟩, .string ⟨#[50, 48]⟩, .bool true]) ∧ Below w.heap.size w w' := fun w => by
    have C := Lib.hid fun w => cut_ex w
    go_enter Tryz.func36, Tryz.ntmps36
    go_wp2_with fail
    refine (C.out _).mono ?_
    rintro e w1 ⟨rfl, hB⟩
    go_wp2_with fail
    go_ret3
    exact ⟨rfl, hB⟩
  have C2 := Lib.hid C2
  have C3 := Lib.hid fun w => atoi_of ⟨#[49]⟩ 1 (by decide) (by decide) w
  have C4 := Lib.hid fun w => atoi_of ⟨#[50, 48]⟩ 20 (by decide) (by decide) w
  have C5 : ∀ w, Calls Tryz.prog 39 #[.int .i64 1, .int .i64 20] w fun e w' => e = .returned (.bool true) ∧ w' = w := fun w => by
    go_enter Tryz.func39, Tryz.ntmps39
    go_wp2_with fail
    go_ret
    exact ⟨rfl, rfl⟩
  have C5 := Lib.hid C5
  have C6 := Lib.hid fun w => name_ex w
  go_enter Tryz.func16, Tryz.ntmps16
  go_wp2_with fail
  refine (C1.out _).mono ?_
  rintro e w1 ⟨rfl, rfl⟩
  go_wp2_with fail
  refine (C2.out _).mono ?_
  rintro e w2 ⟨rfl, hB2⟩
  go_wp2_with fail
  refine (C3.out _).mono ?_
  rintro e w3 ⟨rfl, hB3⟩
  go_wp2_with fail
  refine (C4.out _).mono ?_
  rintro e w4 ⟨rfl, hB4⟩
  go_wp2_with fail
  refine (C5.out _).mono ?_
  rintro e w5 ⟨rfl, rfl⟩
  go_wp2_with fail
  refine (C6.out _).mono ?_
  rintro e w6 ⟨rfl, rfl⟩
  go_wp2_with fail
  go_ret3
  exact ⟨rfl, hB2.trans ((hB3.trans (hB4.mono hB3.size)).mono hB2.size)⟩
end Fi
end Go.Proofs.YtaoeipehpakngaaGreatDoor
namespace Go.Proofs.YtaoeipehpakngaaGreatDoor
set_option maxRecDepth 20000
open Go.RowKit
namespace Se
open Va (Vl ord)
open Sc (Sch MayS FitS tr tr_yes tr_no tr_iff tr_congr)
open Sx (Sb five)
open Wd (Cr)
set_option maxHeartbeats 4000000 in
theorem after_any (A : Option Addr) (n c : Nat) (s : Sch) (R : Option Addr) (m d : Nat) (xs : List Vl) (T : Option Addr) (p q : Nat) (ys : List Vl) (w : World) (hX : Wd.Vs w R m d xs) (hY : Wd.Vs w T p q ys) (h1 : Srt s xs) (h2 : Srt s ys) (hz : ∀ v ∈ xs, v.s.size ≤ maxLen) :
    Calls Tryz.prog 56 #[.agg #[.slice A n c, .int .i64 s.key, .int .i64 s.cmp, .int .i64 s.del, .int .i64 s.sort], .slice R m d, .slice T p q] w fun e w' => e = .returned (.bool (tr (0 < cm s xs ys))) ∧ Below w.heap.size w w' := by
  have hb0 := (Below.refl w.heap.size w).alloc (Nat.le_refl _) (.cells #[.slice A n c, .int .i64 s.key, .int .i64 s.cmp, .int .i64 s.del, .int .i64 s.sort] 24)
  have c4 := (five (Wd.Bx.new w 24 #[.slice A n c, .int .i64 s.key, .int .i64 s.cmp, .int .i64 s.del, .int .i64 s.sort])).2.2.2.2
  obtain ⟨r, hr⟩ : ∃ r, r = tr (0 < cm s xs ys) := ⟨_, rfl⟩
  rw [← hr]
  by_cases hs : s.sort = -1
  · have e : cm s xs ys = 0 := if_pos hs
    have q := Lib.hid (show r = false by rw [hr, e]; exact tr_no (by omega))
    obtain ⟨t, ht⟩ : ∃ t, t = s.sort := ⟨_, rfl⟩
    have hd : decide (0 ≤ t) = false := decide_eq_false (by omega)
    rw [← ht] at c4 hb0 ⊢
    have hbb := Lib.hid hb0
    clear e hr hs ht hb0
    go_enter Tryz.func56, Tryz.ntmps56
    go_wp2_with fail
    go_quiet (fail)
    go_wp2_with fail
    go_ret
    exact ⟨by rw [q.out]; rfl, Wd.below_drewN hbb.out _⟩
  · obtain ⟨K, hK⟩ : ∃ K : Nat, s.sort = (K : Int) := ⟨s.sort.toNat, by unfold Srt at h1; omega⟩
    have hk1 : K < xs.length := by unfold Srt at h1; omega
    have hk2 : K < ys.length := by unfold Srt at h2; omega
    have e : cm s xs ys = ord (xs.getD K default) (ys.getD K default) := by
      unfold cm ky
      rw [if_neg hs, hK, Int.toNat_natCast]
    have hm := hX.len
    have hp := hY.len
    have hzx := hz (xs.getD K default) (by
      rw [List.getD_eq_getElem?_getD, List.getElem?_eq_getElem hk1]
      exact List.getElem_mem _)
    obtain ⟨b, f, hA, hlb, a0, a1, a2, a3, -⟩ := (hX.below hb0).cells hk1 rfl
    obtain ⟨b', f', hA', hlb', b0, b1, b2, b3, -⟩ := (hY.below hb0).cells hk2 rfl
    have hcap := hX.cap
    have hmax := hX.max
    have hcap' := hY.cap
    have hmax' := hY.max
    unfold maxLen at hmax hmax'
    subst hA hA'
    rw [e] at hr
    rw [hK] at c4 hb0 a0 a1 a2 a3 b0 b1 b2 b3 ⊢
    generalize xs.getD K default = x at *
    generalize ys.getD K default = y at *
    have km : (K : Int) < (m : Int) := by omega
    have kp : (K : Int) < (p : Int) := by omega
    have k0 : (0 : Int) ≤ (K : Int) := by omega
    have k0' : decide ((0 : Int) ≤ (K : Int)) = true := decide_eq_true k0
    obtain ⟨w1, hw1⟩ : ∃ w1, w1 = w.alloc (.cells #[.slice A n c, .int .i64 s.key, .int .i64 s.cmp, .int .i64 s.del, .int .i64 (K : Int)] 24) := ⟨_, rfl⟩
    rw [← hw1] at c4 hb0 a0 a1 a2 a3 b0 b1 b2 b3
    obtain ⟨ov, hov⟩ : ∃ ov, ov = ord x y := ⟨_, rfl⟩
    have Co := Lib.hid (fun W => Vc.refOrder_any x.kind x.i x.s x.b y.kind y.i y.s y.b W hzx)
    rw [show (⟨x.kind, x.i, x.s, x.b⟩ : Vl) = x from rfl, show (⟨y.kind, y.i, y.s, y.b⟩ : Vl) = y from rfl, ← hov] at Co
    rw [← hov] at hr
    have q := Lib.hid (show decide (0 < ov) = r by rw [hr]; by_cases z : 0 < ov <;> simp [z, tr_yes, tr_no])
    have bk : ∀ {W : World} {a : Addr} {v : Value}, Below w1.heap.size w1 W → w1.cell? a = some v → W.cell? a = some v := fun {W a v} hb hc => (hb.cell (World.block_lt_of_cell? w1 a hc)).trans hc
    have ZZ := Lib.hid (fun (W : World) (hb : Below w1.heap.size w1 W) => (show W.cell? ⟨w.heap.size, 4, none⟩ = some (.int .i64 (K : Int)) ∧ W.cell? ⟨b, f + K * 4, none⟩ = some (.int .i64 x.kind) ∧ W.cell? ⟨b, f + K * 4 + 1, none⟩ = some (.int .i64 x.i) ∧ W.cell? ⟨b, f + K * 4 + 2, none⟩ = some (.string x.s) ∧ W.cell? ⟨b, f + K * 4 + 3, none⟩ = some (.bool x.b) ∧ W.cell? ⟨b', f' + K * 4, none⟩ = some (.int .i64 y.kind) ∧ W.cell? ⟨b', f' + K * 4 + 1, none⟩ = some (.int .i64 y.i) ∧ W.cell? ⟨b', f' + K * 4 + 2, none⟩ = some (.string y.s) ∧ W.cell? ⟨b', f' + K * 4 + 3, none⟩ = some (.bool y.b) from
      ⟨bk hb c4, bk hb a0, bk hb a1, bk hb a2, bk hb a3, bk hb b0, bk hb b1, bk hb b2, bk hb b3⟩))
    have Hb0 := Lib.hid hb0
    have Hw1 := Lib.hid hw1
    clear hw1 bk c4 a0 a1 a2 a3 b0 b1 b2 b3 hs hK hk1 hk2 e hm hp h1 h2 hX hY hlb hlb' hr hov hb0 hz hzx
    go_enter Tryz.func56, Tryz.ntmps56
    go_upto_region 1 with fail
    rw [← Hw1.out]
    have hb : Below w1.heap.size w1 w1.drew := (Below.refl _ _).drew
    have z10 := ZZ.out w1.drew hb
    go_region_held3 (fun W => W.cell? ⟨w.heap.size, 4, none⟩ = some (.int .i64 (K : Int)) ∧ W.cell? ⟨b, f + K * 4, none⟩ = some (.int .i64 x.kind) ∧ W.cell? ⟨b, f + K * 4 + 1, none⟩ = some (.int .i64 x.i) ∧ W.cell? ⟨b, f + K * 4 + 2, none⟩ = some (.string x.s) ∧ W.cell? ⟨b, f + K * 4 + 3, none⟩ = some (.bool x.b) ∧ W.cell? ⟨b', f' + K * 4, none⟩ = some (.int .i64 y.kind) ∧ W.cell? ⟨b', f' + K * 4 + 1, none⟩ = some (.int .i64 y.i) ∧ W.cell? ⟨b', f' + K * 4 + 2, none⟩ = some (.string y.s) ∧ W.cell? ⟨b', f' + K * 4 + 3, none⟩ = some (.bool y.b)) (with_reducible first | exact z10) (first
      | (go_at_call 102; (with_reducible refine (Co.out _).mono ?_); rintro e w5 ⟨rfl, hB5⟩; have hb := hb.trans (hB5.mono hb.size); have z10 := ZZ.out _ hb))
    all_goals (
      go_wp2_with fail
      go_ret
      exact ⟨by rw [q.out]; rfl, Hb0.out.trans (hb.mono Hb0.out.size)⟩)
end Se
end Go.Proofs.YtaoeipehpakngaaGreatDoor
