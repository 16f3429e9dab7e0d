import Derived.Test.YtedajignaflnlaaGreatDoorProg
import Derived.WalkKit
import Derived.Ground.NamesProg
import Derived.Shelf.Strings.SlTrimAscii
import Derived.Shelf.Strings.Builder1
import Derived.Shelf.Unicode.ValidAny
namespace Go.Proofs
open Go.Shelf
def Tryz.layTrim_ren : Ren where
  f := fun | 160 => 98 | 232 => 115 | 231 => 114 | 227 => 116 | 234 => 118 | 233 => 117 | 236 => 120 | 235 => 119 | 228 => 129 | 271 => 132 | 151 => 131 | 197 => 130 | 120 => 138 | 152 => 137 | 260 => 136 | 137 => 142 | 119 => 82 | 224 => 143 | 225 => 144 | 217 => 146 | 266 => 148 | n => n
  t := fun | 9 => 9 | 4 => 4 | 3 => 3 | 5 => 5 | 117 => 185 | 116 => 184 | 0 => 0 | 124 => 188 | 21 => 21 | 105 => 197 | 46 => 165 | 119 => 161 | 139 => 164 | 138 => 163 | n => n
  g := fun | 3 => 0 | 4 => 1 | n => n
theorem Tryz.layTrim : Lays.n160 Tryz.prog Tryz.layTrim_ren :=
  {
    mixed := by kernel_rfl, f119 := Tryz.func82.trans (congrArg some (by kernel_rfl)), f120 := Tryz.func138.trans (congrArg some (by kernel_rfl)), f137 := Tryz.func142.trans (congrArg some (by kernel_rfl)), f151 := Tryz.func131.trans (congrArg some (by kernel_rfl)), f152 := Tryz.func137.trans (congrArg some (by kernel_rfl)),
    f160 := Tryz.func98.trans (congrArg some (by kernel_rfl)), f197 := Tryz.func130.trans (congrArg some (by kernel_rfl)), f217 := Tryz.func146.trans (congrArg some (by kernel_rfl)), f224 := Tryz.func143.trans (congrArg some (by kernel_rfl)), f225 := Tryz.func144.trans (congrArg some (by kernel_rfl)), f227 := Tryz.func116.trans (congrArg some (by kernel_rfl)),
    f228 := Tryz.func129.trans (congrArg some (by kernel_rfl)), f231 := Tryz.func114.trans (congrArg some (by kernel_rfl)), f232 := Tryz.func115.trans (congrArg some (by kernel_rfl)), f233 := Tryz.func117.trans (congrArg some (by kernel_rfl)), f234 := Tryz.func118.trans (congrArg some (by kernel_rfl)), f235 := Tryz.func119.trans (congrArg some (by kernel_rfl)),
    f236 := Tryz.func120.trans (congrArg some (by kernel_rfl)), f260 := Tryz.func136.trans (congrArg some (by kernel_rfl)), f266 := Tryz.func148.trans (congrArg some (by kernel_rfl)), f271 := Tryz.func132.trans (congrArg some (by kernel_rfl)), t0 := Tryz.underlying0, a0 := Tryz.isAgg0,
    z0 := Tryz.sizeOf0, v0 := Tryz.zeroValue0, t3 := Tryz.underlying3, a3 := Tryz.isAgg3, z3 := Tryz.sizeOf3, v3 := Tryz.zeroValue3,
    t4 := Tryz.underlying4, a4 := Tryz.isAgg4, z4 := Tryz.sizeOf4, v4 := Tryz.zeroValue4, t5 := Tryz.underlying5, a5 := Tryz.isAgg5,
    z5 := Tryz.sizeOf5, v5 := Tryz.zeroValue5, t9 := Tryz.underlying9, a9 := Tryz.isAgg9, z9 := Tryz.sizeOf9, v9 := Tryz.zeroValue9,
    t21 := Tryz.underlying21, a21 := Tryz.isAgg21, z21 := Tryz.sizeOf21, v21 := Tryz.zeroValue21, t46 := Tryz.underlying165, a46 := Tryz.isAgg165,
    z46 := Tryz.sizeOf165, v46 := Tryz.zeroValue165, t105 := Tryz.underlying197, a105 := Tryz.isAgg197, z105 := Tryz.sizeOf197, v105 := Tryz.zeroValue197,
    t116 := Tryz.underlying184, a116 := Tryz.isAgg184, z116 := Tryz.sizeOf184, t117 := Tryz.underlying185, a117 := Tryz.isAgg185, z117 := Tryz.sizeOf185,
    v117 := Tryz.zeroValue185, t119 := Tryz.underlying161, a119 := Tryz.isAgg161, z119 := Tryz.sizeOf161, t124 := Tryz.underlying188, a124 := Tryz.isAgg188,
    z124 := Tryz.sizeOf188, v124 := Tryz.zeroValue188, t138 := Tryz.underlying163, a138 := Tryz.isAgg163, z138 := Tryz.sizeOf163, v138 := Tryz.zeroValue163,
    t139 := Tryz.underlying164, a139 := Tryz.isAgg164, z139 := Tryz.sizeOf164, v139 := Tryz.zeroValue164, g3 := by kernel_rfl, g4 := by kernel_rfl }
def Tryz.layValid_ren : Ren where
  f := fun | 196 => 67 | 259 => 90 | n => n
  t := fun | 9 => 9 | 4 => 4 | 3 => 3 | 5 => 5 | 12 => 12 | 119 => 161 | 0 => 0 | 46 => 165 | 139 => 164 | 138 => 163 | 53 => 181 | n => n
  g := fun | 3 => 0 | 4 => 1 | n => n
theorem Tryz.layValid : Lays.n196 Tryz.prog Tryz.layValid_ren :=
  {
    mixed := by kernel_rfl, f196 := Tryz.func67.trans (congrArg some (by kernel_rfl)), f259 := Tryz.func90.trans (congrArg some (by kernel_rfl)), t0 := Tryz.underlying0, a0 := Tryz.isAgg0, z0 := Tryz.sizeOf0,
    v0 := Tryz.zeroValue0, t3 := Tryz.underlying3, a3 := Tryz.isAgg3, z3 := Tryz.sizeOf3, v3 := Tryz.zeroValue3, t4 := Tryz.underlying4,
    a4 := Tryz.isAgg4, z4 := Tryz.sizeOf4, v4 := Tryz.zeroValue4, t5 := Tryz.underlying5, a5 := Tryz.isAgg5, z5 := Tryz.sizeOf5,
    v5 := Tryz.zeroValue5, t9 := Tryz.underlying9, a9 := Tryz.isAgg9, z9 := Tryz.sizeOf9, v9 := Tryz.zeroValue9, t12 := Tryz.underlying12,
    a12 := Tryz.isAgg12, z12 := Tryz.sizeOf12, v12 := Tryz.zeroValue12, t46 := Tryz.underlying165, a46 := Tryz.isAgg165, z46 := Tryz.sizeOf165,
    v46 := Tryz.zeroValue165, t53 := Tryz.underlying181, a53 := Tryz.isAgg181, z53 := Tryz.sizeOf181, v53 := Tryz.zeroValue181, t119 := Tryz.underlying161,
    a119 := Tryz.isAgg161, z119 := Tryz.sizeOf161, t138 := Tryz.underlying163, a138 := Tryz.isAgg163, z138 := Tryz.sizeOf163, v138 := Tryz.zeroValue163,
    t139 := Tryz.underlying164, a139 := Tryz.isAgg164, z139 := Tryz.sizeOf164, v139 := Tryz.zeroValue164, g3 := by kernel_rfl, g4 := by kernel_rfl }
def Tryz.bren : Ren where
  f := fun | 240 => 99 | 276 => 121 | 166 => 74 | 167 => 73 | 169 => 75 | n => n
  t := fun | 70 => 131 | 72 => 133 | 37 => 97 | 127 => 170 | 75 => 135 | 80 => 75 | 164 => 189 | n => n
  g := fun n => n
theorem Tryz.layWS : Lays.n166 Tryz.prog Tryz.bren :=
  { mixed := by kernel_rfl, f166 := Tryz.func74.trans (congrArg some (by kernel_rfl)), f240 := Tryz.func99.trans (congrArg some (by kernel_rfl)), f276 := Tryz.func121.trans (congrArg some (by kernel_rfl)),
    t0 := Tryz.underlying0, a0 := Tryz.isAgg0, z0 := Tryz.sizeOf0, v0 := Tryz.zeroValue0, t3 := Tryz.underlying3, a3 := Tryz.isAgg3, z3 := Tryz.sizeOf3, v3 := Tryz.zeroValue3, t4 := Tryz.underlying4, a4 := Tryz.isAgg4, z4 := Tryz.sizeOf4, v4 := Tryz.zeroValue4, t9 := Tryz.underlying9, a9 := Tryz.isAgg9, z9 := Tryz.sizeOf9, v9 := Tryz.zeroValue9,
    t20 := Tryz.underlying20, a20 := Tryz.isAgg20, z20 := Tryz.sizeOf20, v20 := Tryz.zeroValue20, t37 := Tryz.underlying97, a37 := Tryz.isAgg97, z37 := Tryz.sizeOf97, v37 := Tryz.zeroValue97, t70 := Tryz.underlying131, a70 := Tryz.isAgg131, z70 := Tryz.sizeOf131, v70 := Tryz.zeroValue131, t72 := Tryz.underlying133, a72 := Tryz.isAgg133, z72 := Tryz.sizeOf133, v72 := Tryz.zeroValue133,
    t75 := Tryz.underlying135, a75 := Tryz.isAgg135, z75 := Tryz.sizeOf135, v75 := Tryz.zeroValue135, t164 := Tryz.underlying189, a164 := Tryz.isAgg189, z164 := Tryz.sizeOf189, v164 := Tryz.zeroValue189 }
theorem Tryz.layWB : Lays.n167 Tryz.prog Tryz.bren :=
  { mixed := by kernel_rfl, f167 := Tryz.func73.trans (congrArg some (by kernel_rfl)), f240 := Tryz.func99.trans (congrArg some (by kernel_rfl)), f276 := Tryz.func121.trans (congrArg some (by kernel_rfl)),
    t0 := Tryz.underlying0, a0 := Tryz.isAgg0, z0 := Tryz.sizeOf0, v0 := Tryz.zeroValue0, t4 := Tryz.underlying4, a4 := Tryz.isAgg4, z4 := Tryz.sizeOf4, v4 := Tryz.zeroValue4, t5 := Tryz.underlying5, a5 := Tryz.isAgg5, z5 := Tryz.sizeOf5, v5 := Tryz.zeroValue5, t9 := Tryz.underlying9, a9 := Tryz.isAgg9, z9 := Tryz.sizeOf9, v9 := Tryz.zeroValue9,
    t20 := Tryz.underlying20, a20 := Tryz.isAgg20, z20 := Tryz.sizeOf20, v20 := Tryz.zeroValue20, t37 := Tryz.underlying97, a37 := Tryz.isAgg97, z37 := Tryz.sizeOf97, v37 := Tryz.zeroValue97, t70 := Tryz.underlying131, a70 := Tryz.isAgg131, z70 := Tryz.sizeOf131, v70 := Tryz.zeroValue131, t72 := Tryz.underlying133, a72 := Tryz.isAgg133, z72 := Tryz.sizeOf133, v72 := Tryz.zeroValue133,
    t75 := Tryz.underlying135, a75 := Tryz.isAgg135, z75 := Tryz.sizeOf135, v75 := Tryz.zeroValue135, t164 := Tryz.underlying189, a164 := Tryz.isAgg189, z164 := Tryz.sizeOf189, v164 := Tryz.zeroValue189 }
theorem Tryz.layST : Lays.n169 Tryz.prog Tryz.bren :=
  { mixed := by kernel_rfl, f169 := Tryz.func75.trans (congrArg some (by kernel_rfl)),
    t0 := Tryz.underlying0, a0 := Tryz.isAgg0, z0 := Tryz.sizeOf0, v0 := Tryz.zeroValue0, t3 := Tryz.underlying3, a3 := Tryz.isAgg3, z3 := Tryz.sizeOf3, v3 := Tryz.zeroValue3, t9 := Tryz.underlying9, a9 := Tryz.isAgg9, z9 := Tryz.sizeOf9, v9 := Tryz.zeroValue9, t37 := Tryz.underlying97, a37 := Tryz.isAgg97, z37 := Tryz.sizeOf97, v37 := Tryz.zeroValue97, t70 := Tryz.underlying131, a70 := Tryz.isAgg131, z70 := Tryz.sizeOf131, v70 := Tryz.zeroValue131, t72 := Tryz.underlying133, a72 := Tryz.isAgg133, z72 := Tryz.sizeOf133, v72 := Tryz.zeroValue133, t127 := Tryz.underlying170, a127 := Tryz.isAgg170, z127 := Tryz.sizeOf170, v127 := Tryz.zeroValue170 }
theorem Tryz.bX : Builder.Extra Tryz.prog Tryz.bren :=
  { sizeBuilder := by kernel_rfl, liesBuilder := by kernel_rfl, t5 := Tryz.underlying5, a5 := Tryz.isAgg5, z5 := Tryz.sizeOf5, v5 := Tryz.zeroValue5, infoByte := by kernel_rfl, cellsByte := by kernel_rfl, sizeByte := by kernel_rfl, neB5 := by decide }
end Go.Proofs
