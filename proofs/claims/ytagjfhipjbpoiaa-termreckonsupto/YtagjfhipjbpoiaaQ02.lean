/-
 Where this program bears the library's functions that the walks take by their contracts: layings, written by the kit's own tool, cut to what is used.
-/
import Derived.Shelf.SlSortCmp.WholeK
import Derived.Test.YtagjfhipjbpoiaaProg
namespace Go.Proofs
open Go.Shelf
def Try.sortP_ren : Go.Shelf.Ren := ⟨fun | 6 => 79 | 15 => 93 | 14 => 92 | 28 => 91 | 29 => 104 | 20 => 96 | 21 => 97 | 22 => 98 | 23 => 99 | 24 => 100 | 25 => 101 | 26 => 102 | 27 => 103 | 46 => 105 | 47 => 106 | 48 => 107 | 49 => 108 | 50 => 109 | 57 => 110 | n => n, fun | 22 => 22 | 24 => 62 | 25 => 72 | 3 => 3 | 39 => 83 | 0 => 0 | 53 => 70 | 55 => 82 | 4 => 4 | 46 => 98 | 45 => 97 | 50 => 102 | 5 => 5 | 9 => 9 | 66 => 105 | 70 => 109 | 76 => 111 | 77 => 112 | n => n, fun | n => n⟩
theorem Try.sortP : Go.Proofs.SlLaysF0.n6 Try.prog Try.sortP_ren := {
 mixed := by kernel_rfl
 f6 := ⟨Try.f79.name, by decide, Try.func79.trans (congrArg some (by kernel_rfl))⟩
 f14 := ⟨Try.f92.name, by decide, Try.func92.trans (congrArg some (by kernel_rfl))⟩
 f15 := Try.func93.trans (congrArg some (by kernel_rfl))
 f20 := ⟨Try.f96.name, by decide, Try.func96.trans (congrArg some (by kernel_rfl))⟩
 f21 := ⟨Try.f97.name, by decide, Try.func97.trans (congrArg some (by kernel_rfl))⟩
 f22 := ⟨Try.f98.name, by decide, Try.func98.trans (congrArg some (by kernel_rfl))⟩
 f23 := ⟨Try.f99.name, by decide, Try.func99.trans (congrArg some (by kernel_rfl))⟩
 f24 := ⟨Try.f100.name, by decide, Try.func100.trans (congrArg some (by kernel_rfl))⟩
 f25 := ⟨Try.f101.name, by decide, Try.func101.trans (congrArg some (by kernel_rfl))⟩
 f26 := ⟨Try.f102.name, by decide, Try.func102.trans (congrArg some (by kernel_rfl))⟩
 f27 := ⟨Try.f103.name, by decide, Try.func103.trans (congrArg some (by kernel_rfl))⟩
 f28 := Try.func91.trans (congrArg some (by kernel_rfl))
 f29 := Try.func104.trans (congrArg some (by kernel_rfl))
 f46 := ⟨Try.f105.name, by decide, Try.func105.trans (congrArg some (by kernel_rfl))⟩
 f47 := Try.func106.trans (congrArg some (by kernel_rfl))
 f48 := Try.func107.trans (congrArg some (by kernel_rfl))
 f49 := ⟨Try.f108.name, by decide, Try.func108.trans (congrArg some (by kernel_rfl))⟩
 f50 := ⟨Try.f109.name, by decide, Try.func109.trans (congrArg some (by kernel_rfl))⟩
 f57 := ⟨Try.f110.name, by decide, Try.func110.trans (congrArg some (by kernel_rfl))⟩
 t0 := Try.underlying0
 a0 := Try.isAgg0
 z0 := Try.sizeOf0
 v0 := Try.zeroValue0
 t3 := Try.underlying3
 a3 := Try.isAgg3
 z3 := Try.sizeOf3
 v3 := Try.zeroValue3
 t4 := Try.underlying4
 a4 := Try.isAgg4
 z4 := Try.sizeOf4
 v4 := Try.zeroValue4
 t5 := Try.underlying5
 a5 := Try.isAgg5
 z5 := Try.sizeOf5
 v5 := Try.zeroValue5
 t9 := Try.underlying9
 a9 := Try.isAgg9
 z9 := Try.sizeOf9
 v9 := Try.zeroValue9
 t22 := Try.underlying22
 a22 := Try.isAgg22
 z22 := Try.sizeOf22
 v22 := Try.zeroValue22
 t25 := Try.underlying72
 a25 := Try.isAgg72
 z25 := Try.sizeOf72
 v25 := Try.zeroValue72
 t39 := Try.underlying83
 a39 := Try.isAgg83
 z39 := Try.sizeOf83
 v39 := Try.zeroValue83
 t45 := Try.underlying97
 a45 := Try.isAgg97
 z45 := Try.sizeOf97
 v45 := Try.zeroValue97
 t46 := Try.underlying98
 a46 := Try.isAgg98
 z46 := Try.sizeOf98
 v46 := Try.zeroValue98
 t50 := Try.underlying102
 a50 := Try.isAgg102
 z50 := Try.sizeOf102
 v50 := Try.zeroValue102
 t53 := Try.underlying70
 a53 := Try.isAgg70
 z53 := Try.sizeOf70
 v53 := Try.zeroValue70
 t55 := Try.underlying82
 a55 := Try.isAgg82
 z55 := Try.sizeOf82
 v55 := Try.zeroValue82
 t66 := Try.underlying105
 a66 := Try.isAgg105
 z66 := Try.sizeOf105
 v66 := Try.zeroValue105
 t70 := Try.underlying109
 a70 := Try.isAgg109
 z70 := Try.sizeOf109
 v70 := Try.zeroValue109
 t76 := Try.underlying111
 a76 := Try.isAgg111
 z76 := Try.sizeOf111
 v76 := Try.zeroValue111
 t77 := Try.underlying112
 a77 := Try.isAgg112
 z77 := Try.sizeOf112
 v77 := Try.zeroValue112 }
end Go.Proofs
