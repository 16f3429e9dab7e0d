import Derived.Test.YtinpflnpjhgbdaaGreatDoorProg
import Derived.WalkKit
import Derived.Ground.NamesProg
import Derived.Shelf.Strings.SlTrimAscii
import Derived.Shelf.Strings.Builder1
import Derived.Shelf.Unicode.ValidAny
namespace Go.Proofs
open Go.Shelf
def Tryz.layTrim_ren : Ren where
  f := fun | 160 => 113 | 232 => 138 | 231 => 137 | 227 => 139 | 234 => 141 | 233 => 140 | 236 => 143 | 235 => 142 | 228 => 168 | 271 => 171 | 151 => 170 | 197 => 169 | 120 => 189 | 152 => 188 | 260 => 187 | 137 => 196 | 119 => 90 | 224 => 177 | 225 => 176 | 217 => 175 | 266 => 193 | n => n
  t := fun | 9 => 9 | 4 => 4 | 3 => 3 | 5 => 5 | 117 => 218 | 116 => 217 | 0 => 0 | 124 => 221 | 21 => 21 | 105 => 247 | 46 => 184 | 119 => 180 | 139 => 183 | 138 => 182 | n => n
  g := fun | 3 => 0 | 4 => 1 | n => n
theorem Tryz.layTrim : Lays.n160 Tryz.prog Tryz.layTrim_ren :=
  {
    mixed := by kernel_rfl, f119 := Tryz.func90.trans (congrArg some (by kernel_rfl)), f120 := Tryz.func189.trans (congrArg some (by kernel_rfl)), f137 := Tryz.func196.trans (congrArg some (by kernel_rfl)), f151 := Tryz.func170.trans (congrArg some (by kernel_rfl)), f152 := Tryz.func188.trans (congrArg some (by kernel_rfl)),
    f160 := Tryz.func113.trans (congrArg some (by kernel_rfl)), f197 := Tryz.func169.trans (congrArg some (by kernel_rfl)), f217 := Tryz.func175.trans (congrArg some (by kernel_rfl)), f224 := Tryz.func177.trans (congrArg some (by kernel_rfl)), f225 := Tryz.func176.trans (congrArg some (by kernel_rfl)), f227 := Tryz.func139.trans (congrArg some (by kernel_rfl)),
    f228 := Tryz.func168.trans (congrArg some (by kernel_rfl)), f231 := Tryz.func137.trans (congrArg some (by kernel_rfl)), f232 := Tryz.func138.trans (congrArg some (by kernel_rfl)), f233 := Tryz.func140.trans (congrArg some (by kernel_rfl)), f234 := Tryz.func141.trans (congrArg some (by kernel_rfl)), f235 := Tryz.func142.trans (congrArg some (by kernel_rfl)),
    f236 := Tryz.func143.trans (congrArg some (by kernel_rfl)), f260 := Tryz.func187.trans (congrArg some (by kernel_rfl)), f266 := Tryz.func193.trans (congrArg some (by kernel_rfl)), f271 := Tryz.func171.trans (congrArg some (by kernel_rfl)), t0 := Tryz.underlying0, a0 := Tryz.isAgg0,
    z0 := Tryz.sizeOf0, v0 := Tryz.zeroValue0, t3 := Tryz.underlying3, a3 := Tryz.isAgg3, z3 := Tryz.sizeOf3, v3 := Tryz.zeroValue3,
    t4 := Tryz.underlying4, a4 := Tryz.isAgg4, z4 := Tryz.sizeOf4, v4 := Tryz.zeroValue4, t5 := Tryz.underlying5, a5 := Tryz.isAgg5,
    z5 := Tryz.sizeOf5, v5 := Tryz.zeroValue5, t9 := Tryz.underlying9, a9 := Tryz.isAgg9, z9 := Tryz.sizeOf9, v9 := Tryz.zeroValue9,
    t21 := Tryz.underlying21, a21 := Tryz.isAgg21, z21 := Tryz.sizeOf21, v21 := Tryz.zeroValue21, t46 := Tryz.underlying184, a46 := Tryz.isAgg184,
    z46 := Tryz.sizeOf184, v46 := Tryz.zeroValue184, t105 := Tryz.underlying247, a105 := Tryz.isAgg247, z105 := Tryz.sizeOf247, v105 := Tryz.zeroValue247,
    t116 := Tryz.underlying217, a116 := Tryz.isAgg217, z116 := Tryz.sizeOf217, t117 := Tryz.underlying218, a117 := Tryz.isAgg218, z117 := Tryz.sizeOf218,
    v117 := Tryz.zeroValue218, t119 := Tryz.underlying180, a119 := Tryz.isAgg180, z119 := Tryz.sizeOf180, t124 := Tryz.underlying221, a124 := Tryz.isAgg221,
    z124 := Tryz.sizeOf221, v124 := Tryz.zeroValue221, t138 := Tryz.underlying182, a138 := Tryz.isAgg182, z138 := Tryz.sizeOf182, v138 := Tryz.zeroValue182,
    t139 := Tryz.underlying183, a139 := Tryz.isAgg183, z139 := Tryz.sizeOf183, v139 := Tryz.zeroValue183, g3 := by kernel_rfl, g4 := by kernel_rfl }
def Tryz.layValid_ren : Ren where
  f := fun | 196 => 75 | 259 => 105 | n => n
  t := fun | 9 => 9 | 4 => 4 | 3 => 3 | 5 => 5 | 12 => 12 | 119 => 180 | 0 => 0 | 46 => 184 | 139 => 183 | 138 => 182 | 53 => 214 | n => n
  g := fun | 3 => 0 | 4 => 1 | n => n
theorem Tryz.layValid : Lays.n196 Tryz.prog Tryz.layValid_ren :=
  {
    mixed := by kernel_rfl, f196 := Tryz.func75.trans (congrArg some (by kernel_rfl)), f259 := Tryz.func105.trans (congrArg some (by kernel_rfl)), t0 := Tryz.underlying0, a0 := Tryz.isAgg0, z0 := Tryz.sizeOf0,
    v0 := Tryz.zeroValue0, t3 := Tryz.underlying3, a3 := Tryz.isAgg3, z3 := Tryz.sizeOf3, v3 := Tryz.zeroValue3, t4 := Tryz.underlying4,
    a4 := Tryz.isAgg4, z4 := Tryz.sizeOf4, v4 := Tryz.zeroValue4, t5 := Tryz.underlying5, a5 := Tryz.isAgg5, z5 := Tryz.sizeOf5,
    v5 := Tryz.zeroValue5, t9 := Tryz.underlying9, a9 := Tryz.isAgg9, z9 := Tryz.sizeOf9, v9 := Tryz.zeroValue9, t12 := Tryz.underlying12,
    a12 := Tryz.isAgg12, z12 := Tryz.sizeOf12, v12 := Tryz.zeroValue12, t46 := Tryz.underlying184, a46 := Tryz.isAgg184, z46 := Tryz.sizeOf184,
    v46 := Tryz.zeroValue184, t53 := Tryz.underlying214, a53 := Tryz.isAgg214, z53 := Tryz.sizeOf214, v53 := Tryz.zeroValue214, t119 := Tryz.underlying180,
    a119 := Tryz.isAgg180, z119 := Tryz.sizeOf180, t138 := Tryz.underlying182, a138 := Tryz.isAgg182, z138 := Tryz.sizeOf182, v138 := Tryz.zeroValue182,
    t139 := Tryz.underlying183, a139 := Tryz.isAgg183, z139 := Tryz.sizeOf183, v139 := Tryz.zeroValue183, g3 := by kernel_rfl, g4 := by kernel_rfl }
def Tryz.bren : Ren where
  f := fun | 240 => 114 | 276 => 144 | 166 => 82 | 167 => 81 | 169 => 83 | n => n
  t := fun | 70 => 143 | 72 => 145 | 37 => 103 | 127 => 189 | 75 => 147 | 80 => 75 | 164 => 222 | n => n
  g := fun n => n
theorem Tryz.layWS : Lays.n166 Tryz.prog Tryz.bren :=
  { mixed := by kernel_rfl, f166 := Tryz.func82.trans (congrArg some (by kernel_rfl)), f240 := Tryz.func114.trans (congrArg some (by kernel_rfl)), f276 := Tryz.func144.trans (congrArg some (by kernel_rfl)),
    t0 := Tryz.underlying0, a0 := Tryz.isAgg0, z0 := Tryz.sizeOf0, v0 := Tryz.zeroValue0, t3 := Tryz.underlying3, a3 := Tryz.isAgg3, z3 := Tryz.sizeOf3, v3 := Tryz.zeroValue3, t4 := Tryz.underlying4, a4 := Tryz.isAgg4, z4 := Tryz.sizeOf4, v4 := Tryz.zeroValue4, t9 := Tryz.underlying9, a9 := Tryz.isAgg9, z9 := Tryz.sizeOf9, v9 := Tryz.zeroValue9,
    t20 := Tryz.underlying20, a20 := Tryz.isAgg20, z20 := Tryz.sizeOf20, v20 := Tryz.zeroValue20, t37 := Tryz.underlying103, a37 := Tryz.isAgg103, z37 := Tryz.sizeOf103, v37 := Tryz.zeroValue103, t70 := Tryz.underlying143, a70 := Tryz.isAgg143, z70 := Tryz.sizeOf143, v70 := Tryz.zeroValue143, t72 := Tryz.underlying145, a72 := Tryz.isAgg145, z72 := Tryz.sizeOf145, v72 := Tryz.zeroValue145,
    t75 := Tryz.underlying147, a75 := Tryz.isAgg147, z75 := Tryz.sizeOf147, v75 := Tryz.zeroValue147, t164 := Tryz.underlying222, a164 := Tryz.isAgg222, z164 := Tryz.sizeOf222, v164 := Tryz.zeroValue222 }
theorem Tryz.layWB : Lays.n167 Tryz.prog Tryz.bren :=
  { mixed := by kernel_rfl, f167 := Tryz.func81.trans (congrArg some (by kernel_rfl)), f240 := Tryz.func114.trans (congrArg some (by kernel_rfl)), f276 := Tryz.func144.trans (congrArg some (by kernel_rfl)),
    t0 := Tryz.underlying0, a0 := Tryz.isAgg0, z0 := Tryz.sizeOf0, v0 := Tryz.zeroValue0, t4 := Tryz.underlying4, a4 := Tryz.isAgg4, z4 := Tryz.sizeOf4, v4 := Tryz.zeroValue4, t5 := Tryz.underlying5, a5 := Tryz.isAgg5, z5 := Tryz.sizeOf5, v5 := Tryz.zeroValue5, t9 := Tryz.underlying9, a9 := Tryz.isAgg9, z9 := Tryz.sizeOf9, v9 := Tryz.zeroValue9,
    t20 := Tryz.underlying20, a20 := Tryz.isAgg20, z20 := Tryz.sizeOf20, v20 := Tryz.zeroValue20, t37 := Tryz.underlying103, a37 := Tryz.isAgg103, z37 := Tryz.sizeOf103, v37 := Tryz.zeroValue103, t70 := Tryz.underlying143, a70 := Tryz.isAgg143, z70 := Tryz.sizeOf143, v70 := Tryz.zeroValue143, t72 := Tryz.underlying145, a72 := Tryz.isAgg145, z72 := Tryz.sizeOf145, v72 := Tryz.zeroValue145,
    t75 := Tryz.underlying147, a75 := Tryz.isAgg147, z75 := Tryz.sizeOf147, v75 := Tryz.zeroValue147, t164 := Tryz.underlying222, a164 := Tryz.isAgg222, z164 := Tryz.sizeOf222, v164 := Tryz.zeroValue222 }
theorem Tryz.layST : Lays.n169 Tryz.prog Tryz.bren :=
  { mixed := by kernel_rfl, f169 := Tryz.func83.trans (congrArg some (by kernel_rfl)),
    t0 := Tryz.underlying0, a0 := Tryz.isAgg0, z0 := Tryz.sizeOf0, v0 := Tryz.zeroValue0, t3 := Tryz.underlying3, a3 := Tryz.isAgg3, z3 := Tryz.sizeOf3, v3 := Tryz.zeroValue3, t9 := Tryz.underlying9, a9 := Tryz.isAgg9, z9 := Tryz.sizeOf9, v9 := Tryz.zeroValue9, t37 := Tryz.underlying103, a37 := Tryz.isAgg103, z37 := Tryz.sizeOf103, v37 := Tryz.zeroValue103, t70 := Tryz.underlying143, a70 := Tryz.isAgg143, z70 := Tryz.sizeOf143, v70 := Tryz.zeroValue143, t72 := Tryz.underlying145, a72 := Tryz.isAgg145, z72 := Tryz.sizeOf145, v72 := Tryz.zeroValue145, t127 := Tryz.underlying189, a127 := Tryz.isAgg189, z127 := Tryz.sizeOf189, v127 := Tryz.zeroValue189 }
theorem Tryz.bX : Builder.Extra Tryz.prog Tryz.bren :=
  { sizeBuilder := by kernel_rfl, liesBuilder := by kernel_rfl, t5 := Tryz.underlying5, a5 := Tryz.isAgg5, z5 := Tryz.sizeOf5, v5 := Tryz.zeroValue5, infoByte := by kernel_rfl, cellsByte := by kernel_rfl, sizeByte := by kernel_rfl, neB5 := by decide }
end Go.Proofs
