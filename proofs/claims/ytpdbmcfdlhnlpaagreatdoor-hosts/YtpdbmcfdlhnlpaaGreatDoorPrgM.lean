import Derived.Test.YtpdbmcfdlhnlpaaGreatDoorProg
import Derived.WalkKit
import Derived.Ground.NamesProg
import Derived.Shelf.Strings.SlTrimAscii
import Derived.Shelf.Strings.Builder1
import Derived.Shelf.Unicode.ValidAny
namespace Go.Proofs
open Go.Shelf
def Tryz.layTrim_ren : Ren where
  f := fun | 160 => 148 | 232 => 193 | 231 => 192 | 227 => 194 | 234 => 196 | 233 => 195 | 236 => 198 | 235 => 197 | 228 => 225 | 271 => 228 | 151 => 227 | 197 => 226 | 120 => 245 | 152 => 244 | 260 => 243 | 137 => 253 | 119 => 106 | 224 => 234 | 225 => 233 | 217 => 232 | 266 => 249 | n => n
  t := fun | 9 => 9 | 4 => 4 | 3 => 3 | 5 => 5 | 117 => 265 | 116 => 264 | 0 => 0 | 124 => 268 | 21 => 21 | 105 => 301 | 46 => 216 | 119 => 212 | 139 => 215 | 138 => 214 | n => n
  g := fun | 3 => 0 | 4 => 1 | n => n
theorem Tryz.layTrim : Lays.n160 Tryz.prog Tryz.layTrim_ren :=
  {
    mixed := by kernel_rfl, f119 := Tryz.func106.trans (congrArg some (by kernel_rfl)), f120 := Tryz.func245.trans (congrArg some (by kernel_rfl)), f137 := Tryz.func253.trans (congrArg some (by kernel_rfl)), f151 := Tryz.func227.trans (congrArg some (by kernel_rfl)), f152 := Tryz.func244.trans (congrArg some (by kernel_rfl)),
    f160 := Tryz.func148.trans (congrArg some (by kernel_rfl)), f197 := Tryz.func226.trans (congrArg some (by kernel_rfl)), f217 := Tryz.func232.trans (congrArg some (by kernel_rfl)), f224 := Tryz.func234.trans (congrArg some (by kernel_rfl)), f225 := Tryz.func233.trans (congrArg some (by kernel_rfl)), f227 := Tryz.func194.trans (congrArg some (by kernel_rfl)),
    f228 := Tryz.func225.trans (congrArg some (by kernel_rfl)), f231 := Tryz.func192.trans (congrArg some (by kernel_rfl)), f232 := Tryz.func193.trans (congrArg some (by kernel_rfl)), f233 := Tryz.func195.trans (congrArg some (by kernel_rfl)), f234 := Tryz.func196.trans (congrArg some (by kernel_rfl)), f235 := Tryz.func197.trans (congrArg some (by kernel_rfl)),
    f236 := Tryz.func198.trans (congrArg some (by kernel_rfl)), f260 := Tryz.func243.trans (congrArg some (by kernel_rfl)), f266 := Tryz.func249.trans (congrArg some (by kernel_rfl)), f271 := Tryz.func228.trans (congrArg some (by kernel_rfl)), t0 := Tryz.underlying0, a0 := Tryz.isAgg0,
    z0 := Tryz.sizeOf0, v0 := Tryz.zeroValue0, t3 := Tryz.underlying3, a3 := Tryz.isAgg3, z3 := Tryz.sizeOf3, v3 := Tryz.zeroValue3,
    t4 := Tryz.underlying4, a4 := Tryz.isAgg4, z4 := Tryz.sizeOf4, v4 := Tryz.zeroValue4, t5 := Tryz.underlying5, a5 := Tryz.isAgg5,
    z5 := Tryz.sizeOf5, v5 := Tryz.zeroValue5, t9 := Tryz.underlying9, a9 := Tryz.isAgg9, z9 := Tryz.sizeOf9, v9 := Tryz.zeroValue9,
    t21 := Tryz.underlying21, a21 := Tryz.isAgg21, z21 := Tryz.sizeOf21, v21 := Tryz.zeroValue21, t46 := Tryz.underlying216, a46 := Tryz.isAgg216,
    z46 := Tryz.sizeOf216, v46 := Tryz.zeroValue216, t105 := Tryz.underlying301, a105 := Tryz.isAgg301, z105 := Tryz.sizeOf301, v105 := Tryz.zeroValue301,
    t116 := Tryz.underlying264, a116 := Tryz.isAgg264, z116 := Tryz.sizeOf264, t117 := Tryz.underlying265, a117 := Tryz.isAgg265, z117 := Tryz.sizeOf265,
    v117 := Tryz.zeroValue265, t119 := Tryz.underlying212, a119 := Tryz.isAgg212, z119 := Tryz.sizeOf212, t124 := Tryz.underlying268, a124 := Tryz.isAgg268,
    z124 := Tryz.sizeOf268, v124 := Tryz.zeroValue268, t138 := Tryz.underlying214, a138 := Tryz.isAgg214, z138 := Tryz.sizeOf214, v138 := Tryz.zeroValue214,
    t139 := Tryz.underlying215, a139 := Tryz.isAgg215, z139 := Tryz.sizeOf215, v139 := Tryz.zeroValue215, g3 := by kernel_rfl, g4 := by kernel_rfl }
def Tryz.layValid_ren : Ren where
  f := fun | 196 => 92 | 259 => 140 | n => n
  t := fun | 9 => 9 | 4 => 4 | 3 => 3 | 5 => 5 | 12 => 12 | 119 => 212 | 0 => 0 | 46 => 216 | 139 => 215 | 138 => 214 | 53 => 261 | n => n
  g := fun | 3 => 0 | 4 => 1 | n => n
theorem Tryz.layValid : Lays.n196 Tryz.prog Tryz.layValid_ren :=
  {
    mixed := by kernel_rfl, f196 := Tryz.func92.trans (congrArg some (by kernel_rfl)), f259 := Tryz.func140.trans (congrArg some (by kernel_rfl)), t0 := Tryz.underlying0, a0 := Tryz.isAgg0, z0 := Tryz.sizeOf0,
    v0 := Tryz.zeroValue0, t3 := Tryz.underlying3, a3 := Tryz.isAgg3, z3 := Tryz.sizeOf3, v3 := Tryz.zeroValue3, t4 := Tryz.underlying4,
    a4 := Tryz.isAgg4, z4 := Tryz.sizeOf4, v4 := Tryz.zeroValue4, t5 := Tryz.underlying5, a5 := Tryz.isAgg5, z5 := Tryz.sizeOf5,
    v5 := Tryz.zeroValue5, t9 := Tryz.underlying9, a9 := Tryz.isAgg9, z9 := Tryz.sizeOf9, v9 := Tryz.zeroValue9, t12 := Tryz.underlying12,
    a12 := Tryz.isAgg12, z12 := Tryz.sizeOf12, v12 := Tryz.zeroValue12, t46 := Tryz.underlying216, a46 := Tryz.isAgg216, z46 := Tryz.sizeOf216,
    v46 := Tryz.zeroValue216, t53 := Tryz.underlying261, a53 := Tryz.isAgg261, z53 := Tryz.sizeOf261, v53 := Tryz.zeroValue261, t119 := Tryz.underlying212,
    a119 := Tryz.isAgg212, z119 := Tryz.sizeOf212, t138 := Tryz.underlying214, a138 := Tryz.isAgg214, z138 := Tryz.sizeOf214, v138 := Tryz.zeroValue214,
    t139 := Tryz.underlying215, a139 := Tryz.isAgg215, z139 := Tryz.sizeOf215, v139 := Tryz.zeroValue215, g3 := by kernel_rfl, g4 := by kernel_rfl }
def Tryz.bren : Ren where
  f := fun | 240 => 149 | 276 => 199 | 166 => 99 | 167 => 98 | 169 => 69 | n => n
  t := fun | 70 => 108 | 72 => 110 | 37 => 72 | 127 => 183 | 75 => 146 | 80 => 26 | 164 => 269 | n => n
  g := fun n => n
theorem Tryz.layWS : Lays.n166 Tryz.prog Tryz.bren :=
  { mixed := by kernel_rfl, f166 := Tryz.func99.trans (congrArg some (by kernel_rfl)), f240 := Tryz.func149.trans (congrArg some (by kernel_rfl)), f276 := Tryz.func199.trans (congrArg some (by kernel_rfl)),
    t0 := Tryz.underlying0, a0 := Tryz.isAgg0, z0 := Tryz.sizeOf0, v0 := Tryz.zeroValue0, t3 := Tryz.underlying3, a3 := Tryz.isAgg3, z3 := Tryz.sizeOf3, v3 := Tryz.zeroValue3, t4 := Tryz.underlying4, a4 := Tryz.isAgg4, z4 := Tryz.sizeOf4, v4 := Tryz.zeroValue4, t9 := Tryz.underlying9, a9 := Tryz.isAgg9, z9 := Tryz.sizeOf9, v9 := Tryz.zeroValue9,
    t20 := Tryz.underlying20, a20 := Tryz.isAgg20, z20 := Tryz.sizeOf20, v20 := Tryz.zeroValue20, t37 := Tryz.underlying72, a37 := Tryz.isAgg72, z37 := Tryz.sizeOf72, v37 := Tryz.zeroValue72, t70 := Tryz.underlying108, a70 := Tryz.isAgg108, z70 := Tryz.sizeOf108, v70 := Tryz.zeroValue108, t72 := Tryz.underlying110, a72 := Tryz.isAgg110, z72 := Tryz.sizeOf110, v72 := Tryz.zeroValue110,
    t75 := Tryz.underlying146, a75 := Tryz.isAgg146, z75 := Tryz.sizeOf146, v75 := Tryz.zeroValue146, t164 := Tryz.underlying269, a164 := Tryz.isAgg269, z164 := Tryz.sizeOf269, v164 := Tryz.zeroValue269 }
theorem Tryz.layWB : Lays.n167 Tryz.prog Tryz.bren :=
  { mixed := by kernel_rfl, f167 := Tryz.func98.trans (congrArg some (by kernel_rfl)), f240 := Tryz.func149.trans (congrArg some (by kernel_rfl)), f276 := Tryz.func199.trans (congrArg some (by kernel_rfl)),
    t0 := Tryz.underlying0, a0 := Tryz.isAgg0, z0 := Tryz.sizeOf0, v0 := Tryz.zeroValue0, t4 := Tryz.underlying4, a4 := Tryz.isAgg4, z4 := Tryz.sizeOf4, v4 := Tryz.zeroValue4, t5 := Tryz.underlying5, a5 := Tryz.isAgg5, z5 := Tryz.sizeOf5, v5 := Tryz.zeroValue5, t9 := Tryz.underlying9, a9 := Tryz.isAgg9, z9 := Tryz.sizeOf9, v9 := Tryz.zeroValue9,
    t20 := Tryz.underlying20, a20 := Tryz.isAgg20, z20 := Tryz.sizeOf20, v20 := Tryz.zeroValue20, t37 := Tryz.underlying72, a37 := Tryz.isAgg72, z37 := Tryz.sizeOf72, v37 := Tryz.zeroValue72, t70 := Tryz.underlying108, a70 := Tryz.isAgg108, z70 := Tryz.sizeOf108, v70 := Tryz.zeroValue108, t72 := Tryz.underlying110, a72 := Tryz.isAgg110, z72 := Tryz.sizeOf110, v72 := Tryz.zeroValue110,
    t75 := Tryz.underlying146, a75 := Tryz.isAgg146, z75 := Tryz.sizeOf146, v75 := Tryz.zeroValue146, t164 := Tryz.underlying269, a164 := Tryz.isAgg269, z164 := Tryz.sizeOf269, v164 := Tryz.zeroValue269 }
theorem Tryz.layST : Lays.n169 Tryz.prog Tryz.bren :=
  { mixed := by kernel_rfl, f169 := Tryz.func69.trans (congrArg some (by kernel_rfl)),
    t0 := Tryz.underlying0, a0 := Tryz.isAgg0, z0 := Tryz.sizeOf0, v0 := Tryz.zeroValue0, t3 := Tryz.underlying3, a3 := Tryz.isAgg3, z3 := Tryz.sizeOf3, v3 := Tryz.zeroValue3, t9 := Tryz.underlying9, a9 := Tryz.isAgg9, z9 := Tryz.sizeOf9, v9 := Tryz.zeroValue9, t37 := Tryz.underlying72, a37 := Tryz.isAgg72, z37 := Tryz.sizeOf72, v37 := Tryz.zeroValue72, t70 := Tryz.underlying108, a70 := Tryz.isAgg108, z70 := Tryz.sizeOf108, v70 := Tryz.zeroValue108, t72 := Tryz.underlying110, a72 := Tryz.isAgg110, z72 := Tryz.sizeOf110, v72 := Tryz.zeroValue110, t127 := Tryz.underlying183, a127 := Tryz.isAgg183, z127 := Tryz.sizeOf183, v127 := Tryz.zeroValue183 }
theorem Tryz.bX : Builder.Extra Tryz.prog Tryz.bren :=
  { sizeBuilder := by kernel_rfl, liesBuilder := by kernel_rfl, t5 := Tryz.underlying5, a5 := Tryz.isAgg5, z5 := Tryz.sizeOf5, v5 := Tryz.zeroValue5, infoByte := by kernel_rfl, cellsByte := by kernel_rfl, sizeByte := by kernel_rfl, neB5 := by decide }
end Go.Proofs
