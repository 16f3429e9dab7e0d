import Derived.Test.YtgohllfpceeboaaGreatDoorProg
import Derived.WalkKit
import Derived.Ground.NamesProg
import Derived.Shelf.Strings.SlTrimAscii
import Derived.Shelf.Strings.Builder1
import Derived.Shelf.Unicode.ValidAny
namespace Go.Proofs
open Go.Shelf
def Tryz.layTrim_ren : Ren where
  f := fun | 160 => 167 | 232 => 213 | 231 => 212 | 227 => 214 | 234 => 216 | 233 => 215 | 236 => 218 | 235 => 217 | 228 => 245 | 271 => 248 | 151 => 247 | 197 => 246 | 120 => 265 | 152 => 264 | 260 => 263 | 137 => 273 | 119 => 124 | 224 => 254 | 225 => 253 | 217 => 252 | 266 => 269 | n => n
  t := fun | 9 => 9 | 4 => 4 | 3 => 3 | 5 => 5 | 117 => 288 | 116 => 287 | 0 => 0 | 124 => 291 | 21 => 21 | 105 => 324 | 46 => 239 | 119 => 235 | 139 => 238 | 138 => 237 | n => n
  g := fun | 3 => 0 | 4 => 1 | n => n
theorem Tryz.layTrim : Lays.n160 Tryz.prog Tryz.layTrim_ren :=
  {
    mixed := by kernel_rfl, f119 := Tryz.func124.trans (congrArg some (by kernel_rfl)), f120 := Tryz.func265.trans (congrArg some (by kernel_rfl)), f137 := Tryz.func273.trans (congrArg some (by kernel_rfl)), f151 := Tryz.func247.trans (congrArg some (by kernel_rfl)), f152 := Tryz.func264.trans (congrArg some (by kernel_rfl)),
    f160 := Tryz.func167.trans (congrArg some (by kernel_rfl)), f197 := Tryz.func246.trans (congrArg some (by kernel_rfl)), f217 := Tryz.func252.trans (congrArg some (by kernel_rfl)), f224 := Tryz.func254.trans (congrArg some (by kernel_rfl)), f225 := Tryz.func253.trans (congrArg some (by kernel_rfl)), f227 := Tryz.func214.trans (congrArg some (by kernel_rfl)),
    f228 := Tryz.func245.trans (congrArg some (by kernel_rfl)), f231 := Tryz.func212.trans (congrArg some (by kernel_rfl)), f232 := Tryz.func213.trans (congrArg some (by kernel_rfl)), f233 := Tryz.func215.trans (congrArg some (by kernel_rfl)), f234 := Tryz.func216.trans (congrArg some (by kernel_rfl)), f235 := Tryz.func217.trans (congrArg some (by kernel_rfl)),
    f236 := Tryz.func218.trans (congrArg some (by kernel_rfl)), f260 := Tryz.func263.trans (congrArg some (by kernel_rfl)), f266 := Tryz.func269.trans (congrArg some (by kernel_rfl)), f271 := Tryz.func248.trans (congrArg some (by kernel_rfl)), t0 := Tryz.underlying0, a0 := Tryz.isAgg0,
    z0 := Tryz.sizeOf0, v0 := Tryz.zeroValue0, t3 := Tryz.underlying3, a3 := Tryz.isAgg3, z3 := Tryz.sizeOf3, v3 := Tryz.zeroValue3,
    t4 := Tryz.underlying4, a4 := Tryz.isAgg4, z4 := Tryz.sizeOf4, v4 := Tryz.zeroValue4, t5 := Tryz.underlying5, a5 := Tryz.isAgg5,
    z5 := Tryz.sizeOf5, v5 := Tryz.zeroValue5, t9 := Tryz.underlying9, a9 := Tryz.isAgg9, z9 := Tryz.sizeOf9, v9 := Tryz.zeroValue9,
    t21 := Tryz.underlying21, a21 := Tryz.isAgg21, z21 := Tryz.sizeOf21, v21 := Tryz.zeroValue21, t46 := Tryz.underlying239, a46 := Tryz.isAgg239,
    z46 := Tryz.sizeOf239, v46 := Tryz.zeroValue239, t105 := Tryz.underlying324, a105 := Tryz.isAgg324, z105 := Tryz.sizeOf324, v105 := Tryz.zeroValue324,
    t116 := Tryz.underlying287, a116 := Tryz.isAgg287, z116 := Tryz.sizeOf287, t117 := Tryz.underlying288, a117 := Tryz.isAgg288, z117 := Tryz.sizeOf288,
    v117 := Tryz.zeroValue288, t119 := Tryz.underlying235, a119 := Tryz.isAgg235, z119 := Tryz.sizeOf235, t124 := Tryz.underlying291, a124 := Tryz.isAgg291,
    z124 := Tryz.sizeOf291, v124 := Tryz.zeroValue291, t138 := Tryz.underlying237, a138 := Tryz.isAgg237, z138 := Tryz.sizeOf237, v138 := Tryz.zeroValue237,
    t139 := Tryz.underlying238, a139 := Tryz.isAgg238, z139 := Tryz.sizeOf238, v139 := Tryz.zeroValue238, g3 := by kernel_rfl, g4 := by kernel_rfl }
def Tryz.layValid_ren : Ren where
  f := fun | 196 => 110 | 259 => 159 | n => n
  t := fun | 9 => 9 | 4 => 4 | 3 => 3 | 5 => 5 | 12 => 12 | 119 => 235 | 0 => 0 | 46 => 239 | 139 => 238 | 138 => 237 | 53 => 284 | n => n
  g := fun | 3 => 0 | 4 => 1 | n => n
theorem Tryz.layValid : Lays.n196 Tryz.prog Tryz.layValid_ren :=
  {
    mixed := by kernel_rfl, f196 := Tryz.func110.trans (congrArg some (by kernel_rfl)), f259 := Tryz.func159.trans (congrArg some (by kernel_rfl)), t0 := Tryz.underlying0, a0 := Tryz.isAgg0, z0 := Tryz.sizeOf0,
    v0 := Tryz.zeroValue0, t3 := Tryz.underlying3, a3 := Tryz.isAgg3, z3 := Tryz.sizeOf3, v3 := Tryz.zeroValue3, t4 := Tryz.underlying4,
    a4 := Tryz.isAgg4, z4 := Tryz.sizeOf4, v4 := Tryz.zeroValue4, t5 := Tryz.underlying5, a5 := Tryz.isAgg5, z5 := Tryz.sizeOf5,
    v5 := Tryz.zeroValue5, t9 := Tryz.underlying9, a9 := Tryz.isAgg9, z9 := Tryz.sizeOf9, v9 := Tryz.zeroValue9, t12 := Tryz.underlying12,
    a12 := Tryz.isAgg12, z12 := Tryz.sizeOf12, v12 := Tryz.zeroValue12, t46 := Tryz.underlying239, a46 := Tryz.isAgg239, z46 := Tryz.sizeOf239,
    v46 := Tryz.zeroValue239, t53 := Tryz.underlying284, a53 := Tryz.isAgg284, z53 := Tryz.sizeOf284, v53 := Tryz.zeroValue284, t119 := Tryz.underlying235,
    a119 := Tryz.isAgg235, z119 := Tryz.sizeOf235, t138 := Tryz.underlying237, a138 := Tryz.isAgg237, z138 := Tryz.sizeOf237, v138 := Tryz.zeroValue237,
    t139 := Tryz.underlying238, a139 := Tryz.isAgg238, z139 := Tryz.sizeOf238, v139 := Tryz.zeroValue238, g3 := by kernel_rfl, g4 := by kernel_rfl }
def Tryz.bren : Ren where
  f := fun | 240 => 168 | 276 => 219 | 166 => 117 | 167 => 116 | 169 => 84 | n => n
  t := fun | 70 => 131 | 72 => 133 | 37 => 58 | 127 => 207 | 75 => 170 | 80 => 26 | 164 => 292 | n => n
  g := fun n => n
theorem Tryz.layWS : Lays.n166 Tryz.prog Tryz.bren :=
  { mixed := by kernel_rfl, f166 := Tryz.func117.trans (congrArg some (by kernel_rfl)), f240 := Tryz.func168.trans (congrArg some (by kernel_rfl)), f276 := Tryz.func219.trans (congrArg some (by kernel_rfl)),
    t0 := Tryz.underlying0, a0 := Tryz.isAgg0, z0 := Tryz.sizeOf0, v0 := Tryz.zeroValue0, t3 := Tryz.underlying3, a3 := Tryz.isAgg3, z3 := Tryz.sizeOf3, v3 := Tryz.zeroValue3, t4 := Tryz.underlying4, a4 := Tryz.isAgg4, z4 := Tryz.sizeOf4, v4 := Tryz.zeroValue4, t9 := Tryz.underlying9, a9 := Tryz.isAgg9, z9 := Tryz.sizeOf9, v9 := Tryz.zeroValue9,
    t20 := Tryz.underlying20, a20 := Tryz.isAgg20, z20 := Tryz.sizeOf20, v20 := Tryz.zeroValue20, t37 := Tryz.underlying58, a37 := Tryz.isAgg58, z37 := Tryz.sizeOf58, v37 := Tryz.zeroValue58, t70 := Tryz.underlying131, a70 := Tryz.isAgg131, z70 := Tryz.sizeOf131, v70 := Tryz.zeroValue131, t72 := Tryz.underlying133, a72 := Tryz.isAgg133, z72 := Tryz.sizeOf133, v72 := Tryz.zeroValue133,
    t75 := Tryz.underlying170, a75 := Tryz.isAgg170, z75 := Tryz.sizeOf170, v75 := Tryz.zeroValue170, t164 := Tryz.underlying292, a164 := Tryz.isAgg292, z164 := Tryz.sizeOf292, v164 := Tryz.zeroValue292 }
theorem Tryz.layWB : Lays.n167 Tryz.prog Tryz.bren :=
  { mixed := by kernel_rfl, f167 := Tryz.func116.trans (congrArg some (by kernel_rfl)), f240 := Tryz.func168.trans (congrArg some (by kernel_rfl)), f276 := Tryz.func219.trans (congrArg some (by kernel_rfl)),
    t0 := Tryz.underlying0, a0 := Tryz.isAgg0, z0 := Tryz.sizeOf0, v0 := Tryz.zeroValue0, t4 := Tryz.underlying4, a4 := Tryz.isAgg4, z4 := Tryz.sizeOf4, v4 := Tryz.zeroValue4, t5 := Tryz.underlying5, a5 := Tryz.isAgg5, z5 := Tryz.sizeOf5, v5 := Tryz.zeroValue5, t9 := Tryz.underlying9, a9 := Tryz.isAgg9, z9 := Tryz.sizeOf9, v9 := Tryz.zeroValue9,
    t20 := Tryz.underlying20, a20 := Tryz.isAgg20, z20 := Tryz.sizeOf20, v20 := Tryz.zeroValue20, t37 := Tryz.underlying58, a37 := Tryz.isAgg58, z37 := Tryz.sizeOf58, v37 := Tryz.zeroValue58, t70 := Tryz.underlying131, a70 := Tryz.isAgg131, z70 := Tryz.sizeOf131, v70 := Tryz.zeroValue131, t72 := Tryz.underlying133, a72 := Tryz.isAgg133, z72 := Tryz.sizeOf133, v72 := Tryz.zeroValue133,
    t75 := Tryz.underlying170, a75 := Tryz.isAgg170, z75 := Tryz.sizeOf170, v75 := Tryz.zeroValue170, t164 := Tryz.underlying292, a164 := Tryz.isAgg292, z164 := Tryz.sizeOf292, v164 := Tryz.zeroValue292 }
theorem Tryz.layST : Lays.n169 Tryz.prog Tryz.bren :=
  { mixed := by kernel_rfl, f169 := Tryz.func84.trans (congrArg some (by kernel_rfl)),
    t0 := Tryz.underlying0, a0 := Tryz.isAgg0, z0 := Tryz.sizeOf0, v0 := Tryz.zeroValue0, t3 := Tryz.underlying3, a3 := Tryz.isAgg3, z3 := Tryz.sizeOf3, v3 := Tryz.zeroValue3, t9 := Tryz.underlying9, a9 := Tryz.isAgg9, z9 := Tryz.sizeOf9, v9 := Tryz.zeroValue9, t37 := Tryz.underlying58, a37 := Tryz.isAgg58, z37 := Tryz.sizeOf58, v37 := Tryz.zeroValue58, t70 := Tryz.underlying131, a70 := Tryz.isAgg131, z70 := Tryz.sizeOf131, v70 := Tryz.zeroValue131, t72 := Tryz.underlying133, a72 := Tryz.isAgg133, z72 := Tryz.sizeOf133, v72 := Tryz.zeroValue133, t127 := Tryz.underlying207, a127 := Tryz.isAgg207, z127 := Tryz.sizeOf207, v127 := Tryz.zeroValue207 }
theorem Tryz.bX : Builder.Extra Tryz.prog Tryz.bren :=
  { sizeBuilder := by kernel_rfl, liesBuilder := by kernel_rfl, t5 := Tryz.underlying5, a5 := Tryz.isAgg5, z5 := Tryz.sizeOf5, v5 := Tryz.zeroValue5, infoByte := by kernel_rfl, cellsByte := by kernel_rfl, sizeByte := by kernel_rfl, neB5 := by decide }
end Go.Proofs
