/- The keys of a map, sorted: the shelf's contracts laid. -/
import Derived.Test.YtpmjheofjmdfeaaRows
import Derived.Test.YtpmjheofjmdfeaaSlc
import Derived.WalkKit
import Derived.ProofKit
import Derived.OpenShut
import Derived.ShutString
import Derived.ChangeOld
import Derived.Below
import Derived.Lib.Hide
import Derived.BigQuiet
import Derived.Deep.QuietTactic
import Derived.WalkLawsBesides
import Derived.Outline
import Derived.Shelf.SlIterI.Nil
import Derived.Shelf.SortM.Plain
import Derived.Shelf.SortM.SortNone
import Derived.Ground.GgzProg
import Derived.Ground.SlgmProg
namespace Go.Proofs.Ytpmjheofjmdfeaa.keys
open Go.ChangeShapes Go.WideShapes Go.ChangeAt Go.RowKit
open Go.ChangeMaps (open_string shut_string)
set_option linter.unusedVariables false
open Go Go.RowKit Go.Maps Go.Sort Go.Shelf Go.Proofs

def keysA_ren : Go.Shelf.Ren := ⟨fun | 7 => 113 | 10 => 208 | n => n, fun | 23 => 134 | 26 => 2 | 3 => 4 | 28 => 132 | 0 => 0 | 27 => 131 | 33 => 143 | 4 => 4 | n => n, fun | n => n⟩
theorem keysA : Go.Proofs.SlLaysZI.n7 Try.prog keysA_ren := {
  mixed := by kernel_rfl
  f7 := ⟨Try.f113.name, by decide, Try.func113.trans (congrArg some (by kernel_rfl))⟩
  f10 := ⟨Try.f208.name, by decide, Try.func208.trans (congrArg some (by kernel_rfl))⟩
  t0 := Try.underlying0
  a0 := Try.isAgg0
  z0 := Try.sizeOf0
  v0 := Try.zeroValue0
  t4 := Try.underlying4
  a4 := Try.isAgg4
  z4 := Try.sizeOf4
  v4 := Try.zeroValue4
  t23 := Try.underlying134
  a23 := Try.isAgg134
  z23 := Try.sizeOf134
  v23 := Try.zeroValue134
  t26 := Try.underlying2
  a26 := Try.isAgg2
  z26 := Try.sizeOf2
  v26 := Try.zeroValue2
  t27 := Try.underlying131
  a27 := Try.isAgg131
  z27 := Try.sizeOf131
  v27 := Try.zeroValue131
  t28 := Try.underlying132
  a28 := Try.isAgg132
  z28 := Try.sizeOf132
  v28 := Try.zeroValue132
  t33 := Try.underlying143
  a33 := Try.isAgg143
  z33 := Try.sizeOf143
  v33 := Try.zeroValue143 }
def sortedA_ren : Go.Shelf.Ren := ⟨fun | 6 => 112 | 8 => 207 | 9 => 155 | 11 => 254 | 13 => 224 | 12 => 223 | 23 => 273 | 24 => 274 | 14 => 264 | 15 => 265 | 16 => 266 | 17 => 267 | 18 => 268 | 19 => 269 | 20 => 270 | 21 => 271 | 22 => 272 | 25 => 288 | 26 => 289 | 27 => 290 | 28 => 291 | 29 => 292 | 30 => 293 | 31 => 296 | n => n, fun | 26 => 2 | 28 => 132 | 24 => 24 | 0 => 0 | 3 => 3 | 37 => 239 | 48 => 257 | 50 => 224 | 4 => 4 | 40 => 264 | 39 => 263 | 45 => 269 | 5 => 5 | 9 => 9 | 51 => 278 | 55 => 282 | 57 => 285 | 58 => 286 | 33 => 143 | n => n, fun | n => n⟩
theorem sortedA : Go.Proofs.SlLaysZI.n6 Try.prog sortedA_ren := {
  mixed := by kernel_rfl
  f6 := ⟨Try.f112.name, by decide, Try.func112.trans (congrArg some (by kernel_rfl))⟩
  f8 := ⟨Try.f207.name, by decide, Try.func207.trans (congrArg some (by kernel_rfl))⟩
  f11 := ⟨Try.f254.name, by decide, Try.func254.trans (congrArg some (by kernel_rfl))⟩
  t0 := Try.underlying0
  a0 := Try.isAgg0
  z0 := Try.sizeOf0
  v0 := Try.zeroValue0
  t24 := Try.underlying24
  a24 := Try.isAgg24
  z24 := Try.sizeOf24
  v24 := Try.zeroValue24
  t26 := Try.underlying2
  a26 := Try.isAgg2
  z26 := Try.sizeOf2
  v26 := Try.zeroValue2
  t28 := Try.underlying132
  a28 := Try.isAgg132
  z28 := Try.sizeOf132
  v28 := Try.zeroValue132
  i26 := by kernel_rfl }
def sortA_ren : Go.Shelf.Ren := ⟨fun | 5 => 155 | 8 => 224 | 7 => 223 | 19 => 273 | 20 => 274 | 10 => 264 | 11 => 265 | 12 => 266 | 13 => 267 | 14 => 268 | 15 => 269 | 16 => 270 | 17 => 271 | 18 => 272 | 30 => 288 | 31 => 289 | 32 => 290 | 33 => 291 | 34 => 292 | 35 => 293 | 40 => 296 | n => n, fun | 23 => 24 | 25 => 2 | 3 => 3 | 32 => 239 | 22 => 24 | 0 => 0 | 44 => 257 | 46 => 224 | 4 => 4 | 36 => 264 | 35 => 263 | 41 => 269 | 5 => 5 | 9 => 9 | 53 => 278 | 57 => 282 | 63 => 285 | 64 => 286 | n => n, fun | n => n⟩
theorem sortA : Go.Proofs.SlLaysM.n5 Try.prog sortA_ren := {
  mixed := by kernel_rfl
  f5 := ⟨Try.f155.name, by decide, Try.func155.trans (congrArg some (by kernel_rfl))⟩
  f7 := ⟨Try.f223.name, by decide, Try.func223.trans (congrArg some (by kernel_rfl))⟩
  f8 := Try.func224.trans (congrArg some (by kernel_rfl))
  f10 := ⟨Try.f264.name, by decide, Try.func264.trans (congrArg some (by kernel_rfl))⟩
  f11 := ⟨Try.f265.name, by decide, Try.func265.trans (congrArg some (by kernel_rfl))⟩
  f12 := ⟨Try.f266.name, by decide, Try.func266.trans (congrArg some (by kernel_rfl))⟩
  f13 := ⟨Try.f267.name, by decide, Try.func267.trans (congrArg some (by kernel_rfl))⟩
  f14 := ⟨Try.f268.name, by decide, Try.func268.trans (congrArg some (by kernel_rfl))⟩
  f15 := ⟨Try.f269.name, by decide, Try.func269.trans (congrArg some (by kernel_rfl))⟩
  f16 := ⟨Try.f270.name, by decide, Try.func270.trans (congrArg some (by kernel_rfl))⟩
  f17 := ⟨Try.f271.name, by decide, Try.func271.trans (congrArg some (by kernel_rfl))⟩
  f18 := ⟨Try.f272.name, by decide, Try.func272.trans (congrArg some (by kernel_rfl))⟩
  f19 := Try.func273.trans (congrArg some (by kernel_rfl))
  f20 := Try.func274.trans (congrArg some (by kernel_rfl))
  f30 := ⟨Try.f288.name, by decide, Try.func288.trans (congrArg some (by kernel_rfl))⟩
  f31 := Try.func289.trans (congrArg some (by kernel_rfl))
  f32 := Try.func290.trans (congrArg some (by kernel_rfl))
  f33 := ⟨Try.f291.name, by decide, Try.func291.trans (congrArg some (by kernel_rfl))⟩
  f34 := ⟨Try.f292.name, by decide, Try.func292.trans (congrArg some (by kernel_rfl))⟩
  f35 := ⟨Try.f293.name, by decide, Try.func293.trans (congrArg some (by kernel_rfl))⟩
  f40 := ⟨Try.f296.name, by decide, Try.func296.trans (congrArg some (by kernel_rfl))⟩
  t0 := Try.underlying0
  a0 := Try.isAgg0
  z0 := Try.sizeOf0
  v0 := Try.zeroValue0
  t3 := Try.underlying3
  a3 := Try.isAgg3
  z3 := Try.sizeOf3
  v3 := Try.zeroValue3
  t4 := Try.underlying4
  a4 := Try.isAgg4
  z4 := Try.sizeOf4
  v4 := Try.zeroValue4
  t5 := Try.underlying5
  a5 := Try.isAgg5
  z5 := Try.sizeOf5
  v5 := Try.zeroValue5
  t9 := Try.underlying9
  a9 := Try.isAgg9
  z9 := Try.sizeOf9
  v9 := Try.zeroValue9
  t22 := Try.underlying24
  a22 := Try.isAgg24
  z22 := Try.sizeOf24
  v22 := Try.zeroValue24
  t23 := Try.underlying24
  a23 := Try.isAgg24
  z23 := Try.sizeOf24
  v23 := Try.zeroValue24
  t25 := Try.underlying2
  a25 := Try.isAgg2
  z25 := Try.sizeOf2
  v25 := Try.zeroValue2
  t32 := Try.underlying239
  a32 := Try.isAgg239
  z32 := Try.sizeOf239
  v32 := Try.zeroValue239
  t35 := Try.underlying263
  a35 := Try.isAgg263
  z35 := Try.sizeOf263
  v35 := Try.zeroValue263
  t36 := Try.underlying264
  a36 := Try.isAgg264
  z36 := Try.sizeOf264
  v36 := Try.zeroValue264
  t41 := Try.underlying269
  a41 := Try.isAgg269
  z41 := Try.sizeOf269
  v41 := Try.zeroValue269
  t44 := Try.underlying257
  a44 := Try.isAgg257
  z44 := Try.sizeOf257
  v44 := Try.zeroValue257
  t46 := Try.underlying224
  a46 := Try.isAgg224
  z46 := Try.sizeOf224
  v46 := Try.zeroValue224
  t53 := Try.underlying278
  a53 := Try.isAgg278
  z53 := Try.sizeOf278
  v53 := Try.zeroValue278
  t57 := Try.underlying282
  a57 := Try.isAgg282
  z57 := Try.sizeOf282
  v57 := Try.zeroValue282
  t63 := Try.underlying285
  a63 := Try.isAgg285
  z63 := Try.sizeOf285
  v63 := Try.zeroValue285
  t64 := Try.underlying286
  a64 := Try.isAgg286
  z64 := Try.sizeOf286
  v64 := Try.zeroValue286 }

theorem sortsA (m : Nat) : AnyZI.SortsIn Try.prog sortedA_ren Fence.wide m :=
  ⟨fun blk off cap ss W hH hblk hsz => callsIn_wide.2 (AnyM.slices_Sort_int sortA blk off cap ss W hH hblk hsz),
   fun p cap W => callsIn_wide.2 (AnyM.slices_Sort_int_none sortA p cap W)⟩

theorem keys_c (mb : Option Nat) (W : World) : Calls Try.prog 113 #[.map mb] W fun e w' => e = .returned (.func (.func 208) #[] #[.pointer (some ⟨W.heap.size, 0, none⟩)]) ∧ w' = W.alloc (.cells #[.map mb] 134) :=
  callsIn_wide.1 (AnyZI.keys_in keysA Fence.wide 5 trivial rfl mb W)

set_option maxHeartbeats 1000000 in
theorem sorted_c {H : Type} (b nn : Nat) (D0 : DataW H) (R : Value → Option (DataW H × List MemPlace)) (w : World) (hown : w.ownsMap Try.prog 2 R b nn D0) (hmax : Maps.size D0 ≤ maxLen) (hbytes : Maps.size D0 * 8 ≤ 140737488355328) :
    Calls Try.prog 112 #[.func (.func 208) #[] #[.pointer (some ⟨w.heap.size, 0, none⟩)]] (w.alloc (.cells #[.map (some b)] 134)) fun e w' => ∃ (v : Value) (ss : List Int), e = .returned v ∧ ss.Perm (intKeys D0) ∧
      w'.ownsRow (w.alloc (.cells #[.map (some b)] 134)).heap.size 2 1 v ss.length ((ss.mergeSort (fun x y => decide (x ≤ y))).map encZ) ∧ (v = .slice none 0 0 ↔ ss = []) ∧ Below (w.alloc (.cells #[.map (some b)] 134)).heap.size (w.alloc (.cells #[.map (some b)] 134)) w' := by
  have hbl := hown.lt
  have hseq : SeqGives Fence.wide 2 Try.prog 208 #[.pointer (some ⟨w.heap.size, 0, none⟩)] encZ (fun ss => ss.Perm (intKeys D0)) (Maps.size D0) (w.alloc (.cells #[.map (some b)] 134)) :=
    AnyZI.keys_gives (ρ := keysA_ren) { keysA with } Fence.wide _ trivial rfl (by omega) w.heap.size b nn D0 _ (by simp) (by simp) (by
      obtain ⟨es, clock, hb, Ft, hs, hD⟩ := hown
      exact ⟨es, clock, (Below.heap_alloc _ _ b hbl).trans hb, Ft, hs, hD⟩)
  exact callsIn_wide.1 (AnyZI.sorted_in sortedA Fence.wide 5 trivial trivial trivial trivial rfl (by omega) (sortsA _) (enters_of Try.func155 (by kernel_rfl) rfl) 208 #[.pointer (some ⟨w.heap.size, 0, none⟩)] trivial (enters_of Try.func208 (by kernel_rfl) rfl) _ _ hmax hbytes _ hseq)

end Go.Proofs.Ytpmjheofjmdfeaa.keys
