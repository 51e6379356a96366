/-
  DERIVED: THE SHELF's CONTRACTS AT THIS DUMP, IN PLAIN WORDS (tools/lay-plain.mjs out of 'YtknjamfjonapiaaGreatDoorTrKshelf.lean', which tools/lay-shelf.mjs wrote): THE SAME DECLARATIONS UNDER THE SAME NAMES: 'import', 'namespace', 'open', 'def', 'theorem' AND NOTHING ELSE: no command of the shelf's: FOR A HAND-IN. Each laying: the table of numbers ('.._ren') and one theorem, a field a fact of the dump's own or the kernel's comparison; each contract: ONE APPLICATION.
-/
import Derived.Shelf.Sort.Plain
import Derived.Shelf.Slices.In.SortNone
import Derived.Shelf.Slices.CompactI
import Derived.Ground.NamesProg
import Derived.Ground.Names2Prog
import Derived.Test.YtknjamfjonapiaaGreatDoorChecked
namespace Go.Proofs
open Go.Shelf
def Tryz.lays189_ren : Go.Shelf.Ren := ⟨fun | 189 => 277 | 125 => 298 | 257 => 297 | 128 => 323 | 129 => 324 | 294 => 314 | 295 => 315 | 296 => 316 | 297 => 317 | 298 => 318 | 299 => 319 | 216 => 320 | 300 => 321 | 301 => 322 | 328 => 326 | 329 => 327 | 330 => 328 | 331 => 329 | 332 => 330 | 215 => 331 | 343 => 336 | n => n, fun | 28 => 259 | 3 => 3 | 46 => 363 | 0 => 0 | 51 => 382 | 53 => 370 | 4 => 4 | 183 => 376 | 182 => 375 | 131 => 224 | 5 => 5 | 9 => 9 | 218 => 386 | 222 => 390 | 228 => 393 | 229 => 107 | n => n, fun | n => n⟩
theorem Tryz.lays189 : Go.Proofs.Lays.n189 Tryz.prog Tryz.lays189_ren := {
  mixed := by kernel_rfl
  f125 := Tryz.func298.trans (congrArg some (by kernel_rfl))
  f128 := Tryz.func323.trans (congrArg some (by kernel_rfl))
  f129 := Tryz.func324.trans (congrArg some (by kernel_rfl))
  f189 := Tryz.func277.trans (congrArg some (by kernel_rfl))
  f215 := Tryz.func331.trans (congrArg some (by kernel_rfl))
  f216 := Tryz.func320.trans (congrArg some (by kernel_rfl))
  f257 := Tryz.func297.trans (congrArg some (by kernel_rfl))
  f294 := Tryz.func314.trans (congrArg some (by kernel_rfl))
  f295 := Tryz.func315.trans (congrArg some (by kernel_rfl))
  f296 := Tryz.func316.trans (congrArg some (by kernel_rfl))
  f297 := Tryz.func317.trans (congrArg some (by kernel_rfl))
  f298 := Tryz.func318.trans (congrArg some (by kernel_rfl))
  f299 := Tryz.func319.trans (congrArg some (by kernel_rfl))
  f300 := Tryz.func321.trans (congrArg some (by kernel_rfl))
  f301 := Tryz.func322.trans (congrArg some (by kernel_rfl))
  f328 := Tryz.func326.trans (congrArg some (by kernel_rfl))
  f329 := Tryz.func327.trans (congrArg some (by kernel_rfl))
  f330 := Tryz.func328.trans (congrArg some (by kernel_rfl))
  f331 := Tryz.func329.trans (congrArg some (by kernel_rfl))
  f332 := Tryz.func330.trans (congrArg some (by kernel_rfl))
  f343 := Tryz.func336.trans (congrArg some (by kernel_rfl))
  t0 := Tryz.underlying0
  a0 := Tryz.isAgg0
  z0 := Tryz.sizeOf0
  v0 := Tryz.zeroValue0
  t3 := Tryz.underlying3
  a3 := Tryz.isAgg3
  z3 := Tryz.sizeOf3
  v3 := Tryz.zeroValue3
  t4 := Tryz.underlying4
  a4 := Tryz.isAgg4
  z4 := Tryz.sizeOf4
  v4 := Tryz.zeroValue4
  t5 := Tryz.underlying5
  a5 := Tryz.isAgg5
  z5 := Tryz.sizeOf5
  v5 := Tryz.zeroValue5
  t9 := Tryz.underlying9
  a9 := Tryz.isAgg9
  z9 := Tryz.sizeOf9
  v9 := Tryz.zeroValue9
  t28 := Tryz.underlying259
  a28 := Tryz.isAgg259
  z28 := Tryz.sizeOf259
  v28 := Tryz.zeroValue259
  t46 := Tryz.underlying363
  a46 := Tryz.isAgg363
  z46 := Tryz.sizeOf363
  v46 := Tryz.zeroValue363
  t51 := Tryz.underlying382
  a51 := Tryz.isAgg382
  z51 := Tryz.sizeOf382
  v51 := Tryz.zeroValue382
  t53 := Tryz.underlying370
  a53 := Tryz.isAgg370
  z53 := Tryz.sizeOf370
  v53 := Tryz.zeroValue370
  t131 := Tryz.underlying224
  a131 := Tryz.isAgg224
  z131 := Tryz.sizeOf224
  v131 := Tryz.zeroValue224
  t182 := Tryz.underlying375
  a182 := Tryz.isAgg375
  z182 := Tryz.sizeOf375
  v182 := Tryz.zeroValue375
  t183 := Tryz.underlying376
  a183 := Tryz.isAgg376
  z183 := Tryz.sizeOf376
  v183 := Tryz.zeroValue376
  t218 := Tryz.underlying386
  a218 := Tryz.isAgg386
  z218 := Tryz.sizeOf386
  v218 := Tryz.zeroValue386
  t222 := Tryz.underlying390
  a222 := Tryz.isAgg390
  z222 := Tryz.sizeOf390
  v222 := Tryz.zeroValue390
  t228 := Tryz.underlying393
  a228 := Tryz.isAgg393
  z228 := Tryz.sizeOf393
  v228 := Tryz.zeroValue393
  t229 := Tryz.underlying107
  a229 := Tryz.isAgg107
  z229 := Tryz.sizeOf107
  v229 := Tryz.zeroValue107 }
def Tryz.lays220_ren : Go.Shelf.Ren := ⟨fun | 20 => 278 | n => n, fun | 22 => 259 | 3 => 3 | 4 => 4 | 0 => 0 | n => n, fun | n => n⟩
theorem Tryz.lays220 : Go.Proofs.Lays2.n20 Tryz.prog Tryz.lays220_ren := {
  mixed := by kernel_rfl
  f20 := Tryz.func278.trans (congrArg some (by kernel_rfl))
  t0 := Tryz.underlying0
  a0 := Tryz.isAgg0
  z0 := Tryz.sizeOf0
  v0 := Tryz.zeroValue0
  t3 := Tryz.underlying3
  a3 := Tryz.isAgg3
  z3 := Tryz.sizeOf3
  v3 := Tryz.zeroValue3
  t4 := Tryz.underlying4
  a4 := Tryz.isAgg4
  z4 := Tryz.sizeOf4
  v4 := Tryz.zeroValue4
  t22 := Tryz.underlying259
  a22 := Tryz.isAgg259
  z22 := Tryz.sizeOf259
  v22 := Tryz.zeroValue259
  i3 := by kernel_rfl }
end Go.Proofs
