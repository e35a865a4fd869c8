/-
  Texts that belong together, one behind the other.
-/
import Derived.Shelf.Small.Bits
import Derived.Shelf.Small.Strs
import Derived.Shelf.Utf8.RuneCount
import Derived.Shelf.Strconv.Itoa0
import Derived.Shelf.Strconv.Itoa1
import Derived.Shelf.LaysM
import Derived.Shelf.Strconv.Itoa2
import Derived.Shelf.Strconv.Itoa3
import Derived.Shelf.Strconv.Itoa4
import Derived.Shelf.Strings.Search1
import Derived.Shelf.Strings.Search2
import Derived.Shelf.Strings.Search3
import Derived.Shelf.Strings.Count
import Derived.Shelf.Strings.Shaped
import Derived.Shelf.Strings.Prefix
import Derived.Shelf.Strings.Split
import Derived.Shelf.Strings.Fold
import Derived.Shelf.Strings.SplitShaped
import Derived.Shelf.Strings.RuneCount
import Derived.Shelf.Unicode.DecodeSlow
import Derived.Shelf.Unicode.DecodeAny
import Derived.Shelf.Unicode.CaseLookup
import Derived.Shelf.Unicode.CaseConvert
import Derived.Shelf.Bytes.SlSearch0
import Derived.Ground.SlbCloneProg
import Derived.Shelf.Bytes.SlClone
import Derived.Shelf.Bytes.SlEqualAll
import Derived.Shelf.Bytes.Small
import Derived.Test.YtnohonjjfjppoaaGreatDoorProg
import Derived.Test.YtnohonjjfjppoaaGreatDoorFu02
import Derived.Lib.RuneCountTail
import Derived.Test.YtnohonjjfjppoaaGreatDoorFu07
import Derived.Test.YtnohonjjfjppoaaGreatDoorFu06
import Derived.ScopeJumps
import Derived.WalkMore
/-
  The library's contracts laid at this program: a table of numbers and one application each.
-/
namespace Go.Proofs
open Go.Shelf
def Tryz.laysM173_ren : Go.Shelf.Ren := ⟨fun | 173 => 132 | 246 => 155 | 283 => 176 | 284 => 177 | 285 => 178 | 286 => 179 | 129 => 145 | 317 => 183 | 318 => 184 | 319 => 185 | 320 => 186 | 337 => 187 | 338 => 188 | n => n, fun | 2 => 2 | 3 => 3 | 9 => 9 | 4 => 4 | 171 => 236 | 0 => 0 | 53 => 175 | 37 => 50 | 5 => 5 | 173 => 238 | 212 => 248 | 51 => 172 | 20 => 20 | 213 => 249 | 46 => 48 | 232 => 250 | 233 => 174 | n => n, fun | 17 => 6 | 18 => 7 | 19 => 8 | n => n⟩
theorem Tryz.laysM173 : Go.Proofs.LaysM.n173 Tryz.prog Tryz.laysM173_ren := {
  mixed := by kernel_rfl
  f129 := Tryz.func145.trans (congrArg some (by kernel_rfl))
  f173 := Tryz.func132.trans (congrArg some (by kernel_rfl))
  f246 := Tryz.func155.trans (congrArg some (by kernel_rfl))
  f283 := Tryz.func176.trans (congrArg some (by kernel_rfl))
  f284 := Tryz.func177.trans (congrArg some (by kernel_rfl))
  f285 := Tryz.func178.trans (congrArg some (by kernel_rfl))
  f286 := Tryz.func179.trans (congrArg some (by kernel_rfl))
  f317 := Tryz.func183.trans (congrArg some (by kernel_rfl))
  f318 := Tryz.func184.trans (congrArg some (by kernel_rfl))
  f319 := Tryz.func185.trans (congrArg some (by kernel_rfl))
  f320 := Tryz.func186.trans (congrArg some (by kernel_rfl))
  f337 := Tryz.func187.trans (congrArg some (by kernel_rfl))
  f338 := Tryz.func188.trans (congrArg some (by kernel_rfl))
  t0 := Tryz.underlying0
  a0 := Tryz.isAgg0
  z0 := Tryz.sizeOf0
  v0 := Tryz.zeroValue0
  t2 := Tryz.underlying2
  a2 := Tryz.isAgg2
  z2 := Tryz.sizeOf2
  v2 := Tryz.zeroValue2
  t3 := Tryz.underlying3
  a3 := Tryz.isAgg3
  z3 := Tryz.sizeOf3
  v3 := Tryz.zeroValue3
  t4 := Tryz.underlying4
  a4 := Tryz.isAgg4
  z4 := Tryz.sizeOf4
  v4 := Tryz.zeroValue4
  t5 := Tryz.underlying5
  a5 := Tryz.isAgg5
  z5 := Tryz.sizeOf5
  v5 := Tryz.zeroValue5
  t9 := Tryz.underlying9
  a9 := Tryz.isAgg9
  z9 := Tryz.sizeOf9
  v9 := Tryz.zeroValue9
  t20 := Tryz.underlying20
  a20 := Tryz.isAgg20
  z20 := Tryz.sizeOf20
  v20 := Tryz.zeroValue20
  t37 := Tryz.underlying50
  a37 := Tryz.isAgg50
  z37 := Tryz.sizeOf50
  v37 := Tryz.zeroValue50
  t46 := Tryz.underlying48
  a46 := Tryz.isAgg48
  z46 := Tryz.sizeOf48
  v46 := Tryz.zeroValue48
  t51 := Tryz.underlying172
  a51 := Tryz.isAgg172
  z51 := Tryz.sizeOf172
  v51 := Tryz.zeroValue172
  t53 := Tryz.underlying175
  a53 := Tryz.isAgg175
  z53 := Tryz.sizeOf175
  v53 := Tryz.zeroValue175
  t171 := Tryz.underlying236
  a171 := Tryz.isAgg236
  z171 := Tryz.sizeOf236
  v171 := Tryz.zeroValue236
  t173 := Tryz.underlying238
  a173 := Tryz.isAgg238
  z173 := Tryz.sizeOf238
  v173 := Tryz.zeroValue238
  t212 := Tryz.underlying248
  a212 := Tryz.isAgg248
  z212 := Tryz.sizeOf248
  v212 := Tryz.zeroValue248
  t213 := Tryz.underlying249
  a213 := Tryz.isAgg249
  z213 := Tryz.sizeOf249
  t232 := Tryz.underlying250
  a232 := Tryz.isAgg250
  z232 := Tryz.sizeOf250
  v232 := Tryz.zeroValue250
  t233 := Tryz.underlying174
  a233 := Tryz.isAgg174
  z233 := Tryz.sizeOf174
  v233 := Tryz.zeroValue174
  g17 := by kernel_rfl
  g18 := by kernel_rfl
  g19 := by kernel_rfl
  i0 := by kernel_rfl
  i2 := by kernel_rfl
  i3 := by kernel_rfl
  i4 := by kernel_rfl
  i5 := by kernel_rfl
  i9 := by kernel_rfl
  i20 := by kernel_rfl
  i37 := by kernel_rfl
  i46 := by kernel_rfl
  i51 := by kernel_rfl
  i53 := by kernel_rfl
  i171 := by kernel_rfl
  i173 := by kernel_rfl
  i212 := by kernel_rfl
  i232 := by kernel_rfl
  i233 := by kernel_rfl
  m17 := by kernel_rfl
  m18 := by kernel_rfl
  m19 := by kernel_rfl }
open Go.RowKit Go.Sort Go.Lib in
theorem Tryz.strconv_FormatInt_10 (n : Int) (h0 : -9223372036854775808 ≤ n) (h1 : n ≤ 9223372036854775807) (w : World) (htab : Lib.TabIs Tryz.prog w "internal/strconv.uint64pow10" .u64 Lib.pow10Tab) :
    Calls Tryz.prog 132 #[.int .i64 n, .int .i64 10] w fun e w' => e = .returned (.string ⟨(Lib.itoa n).toArray⟩) ∧ ∃ k os, w' = grow (w.drewN k) os := Any.strconv_FormatInt_10 Tryz.laysM173 n h0 h1 w htab
def Tryz.lays144_ren : Go.Shelf.Ren := ⟨fun | 144 => 100 | 143 => 127 | 219 => 149 | 217 => 166 | 225 => 167 | 224 => 168 | 267 => 169 | 266 => 181 | 314 => 182 | n => n, fun | 9 => 9 | 4 => 4 | 3 => 3 | 5 => 5 | 46 => 48 | 146 => 181 | 51 => 172 | n => n, fun | 1 => 2 | n => n⟩
theorem Tryz.lays144 : Go.Proofs.Lays.n144 Tryz.prog Tryz.lays144_ren := {
  mixed := by kernel_rfl
  f143 := Tryz.func127.trans (congrArg some (by kernel_rfl))
  f144 := Tryz.func100.trans (congrArg some (by kernel_rfl))
  f217 := Tryz.func166.trans (congrArg some (by kernel_rfl))
  f219 := Tryz.func149.trans (congrArg some (by kernel_rfl))
  f224 := Tryz.func168.trans (congrArg some (by kernel_rfl))
  f225 := Tryz.func167.trans (congrArg some (by kernel_rfl))
  f266 := Tryz.func181.trans (congrArg some (by kernel_rfl))
  f267 := Tryz.func169.trans (congrArg some (by kernel_rfl))
  f314 := Tryz.func182.trans (congrArg some (by kernel_rfl))
  t3 := Tryz.underlying3
  a3 := Tryz.isAgg3
  z3 := Tryz.sizeOf3
  v3 := Tryz.zeroValue3
  t4 := Tryz.underlying4
  a4 := Tryz.isAgg4
  z4 := Tryz.sizeOf4
  v4 := Tryz.zeroValue4
  t5 := Tryz.underlying5
  a5 := Tryz.isAgg5
  z5 := Tryz.sizeOf5
  v5 := Tryz.zeroValue5
  t9 := Tryz.underlying9
  a9 := Tryz.isAgg9
  z9 := Tryz.sizeOf9
  v9 := Tryz.zeroValue9
  t46 := Tryz.underlying48
  a46 := Tryz.isAgg48
  z46 := Tryz.sizeOf48
  v46 := Tryz.zeroValue48
  t51 := Tryz.underlying172
  a51 := Tryz.isAgg172
  z51 := Tryz.sizeOf172
  v51 := Tryz.zeroValue172
  t146 := Tryz.underlying181
  a146 := Tryz.isAgg181
  z146 := Tryz.sizeOf181
  v146 := Tryz.zeroValue181
  g1 := by kernel_rfl }
open Go.RowKit Go.Lib in
theorem Tryz.strings_Contains_one (s : ByteArray) (c : UInt8) (w : World) :
    Calls Tryz.prog 100 #[.string s, .string ⟨#[c]⟩] w fun e w' => e = .returned (.bool (decide (0 ≤ Lib.indexByte s.data.toList c))) ∧ w' = w := Any.strings_Contains_one Tryz.lays144 s c w
def Tryz.lays99_ren : Go.Shelf.Ren := ⟨fun | 99 => 124 | 206 => 146 | n => n, fun | 9 => 9 | 4 => 4 | 3 => 3 | n => n, fun | n => n⟩
theorem Tryz.lays99 : Go.Proofs.Lays.n99 Tryz.prog Tryz.lays99_ren := {
  mixed := by kernel_rfl
  f99 := Tryz.func124.trans (congrArg some (by kernel_rfl))
  f206 := Tryz.func146.trans (congrArg some (by kernel_rfl))
  t3 := Tryz.underlying3
  a3 := Tryz.isAgg3
  z3 := Tryz.sizeOf3
  v3 := Tryz.zeroValue3
  t4 := Tryz.underlying4
  a4 := Tryz.isAgg4
  z4 := Tryz.sizeOf4
  v4 := Tryz.zeroValue4
  t9 := Tryz.underlying9
  a9 := Tryz.isAgg9
  z9 := Tryz.sizeOf9
  v9 := Tryz.zeroValue9 }
open Go.RowKit Go.Lib in
theorem Tryz.strings_HasPrefix (s p : ByteArray) (w : World) :
    Calls Tryz.prog 124 #[.string s, .string p] w fun e w' => e = .returned (.bool (Lib.hasPrefix s.data.toList p.data.toList)) ∧ w' = w := Any.strings_HasPrefix Tryz.lays99 s p w
def Tryz.lays146_ren : Go.Shelf.Ren := ⟨fun | 146 => 101 | 221 => 128 | 268 => 150 | 138 => 151 | 143 => 127 | 195 => 170 | 197 => 152 | 218 => 171 | 219 => 149 | 260 => 172 | 217 => 166 | 225 => 167 | 224 => 168 | 267 => 169 | 266 => 181 | 314 => 182 | n => n, fun | 9 => 9 | 31 => 47 | 3 => 3 | 4 => 4 | 0 => 0 | 105 => 211 | 21 => 21 | 5 => 5 | 46 => 48 | 119 => 156 | 139 => 159 | 138 => 158 | 146 => 181 | 51 => 172 | n => n, fun | 1 => 2 | 3 => 0 | 4 => 1 | n => n⟩
theorem Tryz.lays146 : Go.Proofs.Lays.n146 Tryz.prog Tryz.lays146_ren := {
  mixed := by kernel_rfl
  f138 := Tryz.func151.trans (congrArg some (by kernel_rfl))
  f143 := Tryz.func127.trans (congrArg some (by kernel_rfl))
  f146 := Tryz.func101.trans (congrArg some (by kernel_rfl))
  f195 := Tryz.func170.trans (congrArg some (by kernel_rfl))
  f197 := Tryz.func152.trans (congrArg some (by kernel_rfl))
  f217 := Tryz.func166.trans (congrArg some (by kernel_rfl))
  f218 := Tryz.func171.trans (congrArg some (by kernel_rfl))
  f219 := Tryz.func149.trans (congrArg some (by kernel_rfl))
  f221 := Tryz.func128.trans (congrArg some (by kernel_rfl))
  f224 := Tryz.func168.trans (congrArg some (by kernel_rfl))
  f225 := Tryz.func167.trans (congrArg some (by kernel_rfl))
  f260 := Tryz.func172.trans (congrArg some (by kernel_rfl))
  f266 := Tryz.func181.trans (congrArg some (by kernel_rfl))
  f267 := Tryz.func169.trans (congrArg some (by kernel_rfl))
  f268 := Tryz.func150.trans (congrArg some (by kernel_rfl))
  f314 := Tryz.func182.trans (congrArg some (by kernel_rfl))
  t0 := Tryz.underlying0
  a0 := Tryz.isAgg0
  z0 := Tryz.sizeOf0
  v0 := Tryz.zeroValue0
  t3 := Tryz.underlying3
  a3 := Tryz.isAgg3
  z3 := Tryz.sizeOf3
  v3 := Tryz.zeroValue3
  t4 := Tryz.underlying4
  a4 := Tryz.isAgg4
  z4 := Tryz.sizeOf4
  v4 := Tryz.zeroValue4
  t5 := Tryz.underlying5
  a5 := Tryz.isAgg5
  z5 := Tryz.sizeOf5
  v5 := Tryz.zeroValue5
  t9 := Tryz.underlying9
  a9 := Tryz.isAgg9
  z9 := Tryz.sizeOf9
  v9 := Tryz.zeroValue9
  t21 := Tryz.underlying21
  a21 := Tryz.isAgg21
  z21 := Tryz.sizeOf21
  v21 := Tryz.zeroValue21
  t31 := Tryz.underlying47
  a31 := Tryz.isAgg47
  z31 := Tryz.sizeOf47
  v31 := Tryz.zeroValue47
  t46 := Tryz.underlying48
  a46 := Tryz.isAgg48
  z46 := Tryz.sizeOf48
  v46 := Tryz.zeroValue48
  t51 := Tryz.underlying172
  a51 := Tryz.isAgg172
  z51 := Tryz.sizeOf172
  v51 := Tryz.zeroValue172
  t105 := Tryz.underlying211
  a105 := Tryz.isAgg211
  z105 := Tryz.sizeOf211
  v105 := Tryz.zeroValue211
  t119 := Tryz.underlying156
  a119 := Tryz.isAgg156
  z119 := Tryz.sizeOf156
  t138 := Tryz.underlying158
  a138 := Tryz.isAgg158
  z138 := Tryz.sizeOf158
  v138 := Tryz.zeroValue158
  t139 := Tryz.underlying159
  a139 := Tryz.isAgg159
  z139 := Tryz.sizeOf159
  v139 := Tryz.zeroValue159
  t146 := Tryz.underlying181
  a146 := Tryz.isAgg181
  z146 := Tryz.sizeOf181
  v146 := Tryz.zeroValue181
  g1 := by kernel_rfl
  g3 := by kernel_rfl
  g4 := by kernel_rfl }
open Go.RowKit Go.Lib in
theorem Tryz.strings_Split (s sep : ByteArray) (m : Int) (w : World) (hs : s.size < 4294967281) (hm : w.cell? ⟨2, 0, none⟩ = some (.int .i64 m)) (h1 : 1 ≤ sep.size) :
    Calls Tryz.prog 101 #[.string s, .string sep] w fun e w' =>
      e = .returned (.slice (some ⟨w.heap.size, 0, none⟩) (Lib.countB s sep + 1) (Lib.countB s sep + 1)) ∧ w' = w.alloc (.cells ((Lib.splitB sep 0 (Lib.countB s sep) s).map Value.string).toArray 9) := Any.strings_Split Tryz.lays146 (by kernel_rfl) s sep m w hs hm h1
def Tryz.laysM146_ren : Go.Shelf.Ren := ⟨fun | 146 => 101 | 221 => 128 | 268 => 150 | 138 => 151 | 143 => 127 | 195 => 170 | 197 => 152 | 218 => 171 | 219 => 149 | 260 => 172 | 217 => 166 | 225 => 167 | 224 => 168 | 267 => 169 | 266 => 181 | 314 => 182 | n => n, fun | 9 => 9 | 31 => 47 | 3 => 3 | 4 => 4 | 0 => 0 | 105 => 211 | 21 => 21 | 5 => 5 | 46 => 48 | 119 => 156 | 139 => 159 | 138 => 158 | 146 => 181 | 51 => 172 | n => n, fun | 1 => 2 | 3 => 0 | 4 => 1 | n => n⟩
theorem Tryz.laysM146 : Go.Proofs.LaysM.n146 Tryz.prog Tryz.laysM146_ren := {
  mixed := by kernel_rfl
  f138 := Tryz.func151.trans (congrArg some (by kernel_rfl))
  f143 := Tryz.func127.trans (congrArg some (by kernel_rfl))
  f146 := Tryz.func101.trans (congrArg some (by kernel_rfl))
  f195 := Tryz.func170.trans (congrArg some (by kernel_rfl))
  f197 := Tryz.func152.trans (congrArg some (by kernel_rfl))
  f217 := Tryz.func166.trans (congrArg some (by kernel_rfl))
  f218 := Tryz.func171.trans (congrArg some (by kernel_rfl))
  f219 := Tryz.func149.trans (congrArg some (by kernel_rfl))
  f221 := Tryz.func128.trans (congrArg some (by kernel_rfl))
  f224 := Tryz.func168.trans (congrArg some (by kernel_rfl))
  f225 := Tryz.func167.trans (congrArg some (by kernel_rfl))
  f260 := Tryz.func172.trans (congrArg some (by kernel_rfl))
  f266 := Tryz.func181.trans (congrArg some (by kernel_rfl))
  f267 := Tryz.func169.trans (congrArg some (by kernel_rfl))
  f268 := Tryz.func150.trans (congrArg some (by kernel_rfl))
  f314 := Tryz.func182.trans (congrArg some (by kernel_rfl))
  t0 := Tryz.underlying0
  a0 := Tryz.isAgg0
  z0 := Tryz.sizeOf0
  v0 := Tryz.zeroValue0
  t3 := Tryz.underlying3
  a3 := Tryz.isAgg3
  z3 := Tryz.sizeOf3
  v3 := Tryz.zeroValue3
  t4 := Tryz.underlying4
  a4 := Tryz.isAgg4
  z4 := Tryz.sizeOf4
  v4 := Tryz.zeroValue4
  t5 := Tryz.underlying5
  a5 := Tryz.isAgg5
  z5 := Tryz.sizeOf5
  v5 := Tryz.zeroValue5
  t9 := Tryz.underlying9
  a9 := Tryz.isAgg9
  z9 := Tryz.sizeOf9
  v9 := Tryz.zeroValue9
  t21 := Tryz.underlying21
  a21 := Tryz.isAgg21
  z21 := Tryz.sizeOf21
  v21 := Tryz.zeroValue21
  t31 := Tryz.underlying47
  a31 := Tryz.isAgg47
  z31 := Tryz.sizeOf47
  v31 := Tryz.zeroValue47
  t46 := Tryz.underlying48
  a46 := Tryz.isAgg48
  z46 := Tryz.sizeOf48
  v46 := Tryz.zeroValue48
  t51 := Tryz.underlying172
  a51 := Tryz.isAgg172
  z51 := Tryz.sizeOf172
  v51 := Tryz.zeroValue172
  t105 := Tryz.underlying211
  a105 := Tryz.isAgg211
  z105 := Tryz.sizeOf211
  v105 := Tryz.zeroValue211
  t119 := Tryz.underlying156
  a119 := Tryz.isAgg156
  z119 := Tryz.sizeOf156
  t138 := Tryz.underlying158
  a138 := Tryz.isAgg158
  z138 := Tryz.sizeOf158
  v138 := Tryz.zeroValue158
  t139 := Tryz.underlying159
  a139 := Tryz.isAgg159
  z139 := Tryz.sizeOf159
  v139 := Tryz.zeroValue159
  t146 := Tryz.underlying181
  a146 := Tryz.isAgg181
  z146 := Tryz.sizeOf181
  v146 := Tryz.zeroValue181
  g1 := by kernel_rfl
  g3 := by kernel_rfl
  g4 := by kernel_rfl
  i0 := by kernel_rfl
  i3 := by kernel_rfl
  i4 := by kernel_rfl
  i5 := by kernel_rfl
  i9 := by kernel_rfl
  i21 := by kernel_rfl
  i31 := by kernel_rfl
  i46 := by kernel_rfl
  i51 := by kernel_rfl
  i105 := by kernel_rfl
  i138 := by kernel_rfl
  i139 := by kernel_rfl
  i146 := by kernel_rfl
  m1 := by kernel_rfl
  s1_3 := fun w h => Go.Proofs.cell_of_shapedOpen_int (zero := #[.int .i64 0]) (t := 3) h (of_decide_eq_true (by kernel_rfl)) (by kernel_rfl) rfl (by kernel_rfl) (by kernel_rfl) Tryz.underlying3
  m3 := by kernel_rfl
  m4 := by kernel_rfl }
def Tryz.lays197_ren : Go.Shelf.Ren := ⟨fun | 197 => 152 | 260 => 172 | n => n, fun | 9 => 9 | 21 => 21 | 3 => 3 | 4 => 4 | 5 => 5 | 105 => 211 | 119 => 156 | 0 => 0 | 46 => 48 | 139 => 159 | 138 => 158 | n => n, fun | 3 => 0 | 4 => 1 | n => n⟩
theorem Tryz.lays197 : Go.Proofs.Lays.n197 Tryz.prog Tryz.lays197_ren := {
  mixed := by kernel_rfl
  f197 := Tryz.func152.trans (congrArg some (by kernel_rfl))
  f260 := Tryz.func172.trans (congrArg some (by kernel_rfl))
  t0 := Tryz.underlying0
  a0 := Tryz.isAgg0
  z0 := Tryz.sizeOf0
  v0 := Tryz.zeroValue0
  t3 := Tryz.underlying3
  a3 := Tryz.isAgg3
  z3 := Tryz.sizeOf3
  v3 := Tryz.zeroValue3
  t4 := Tryz.underlying4
  a4 := Tryz.isAgg4
  z4 := Tryz.sizeOf4
  v4 := Tryz.zeroValue4
  t5 := Tryz.underlying5
  a5 := Tryz.isAgg5
  z5 := Tryz.sizeOf5
  v5 := Tryz.zeroValue5
  t9 := Tryz.underlying9
  a9 := Tryz.isAgg9
  z9 := Tryz.sizeOf9
  v9 := Tryz.zeroValue9
  t21 := Tryz.underlying21
  a21 := Tryz.isAgg21
  z21 := Tryz.sizeOf21
  v21 := Tryz.zeroValue21
  t46 := Tryz.underlying48
  a46 := Tryz.isAgg48
  z46 := Tryz.sizeOf48
  v46 := Tryz.zeroValue48
  t105 := Tryz.underlying211
  a105 := Tryz.isAgg211
  z105 := Tryz.sizeOf211
  v105 := Tryz.zeroValue211
  t119 := Tryz.underlying156
  a119 := Tryz.isAgg156
  z119 := Tryz.sizeOf156
  t138 := Tryz.underlying158
  a138 := Tryz.isAgg158
  z138 := Tryz.sizeOf158
  v138 := Tryz.zeroValue158
  t139 := Tryz.underlying159
  a139 := Tryz.isAgg159
  z139 := Tryz.sizeOf159
  v139 := Tryz.zeroValue159
  g3 := by kernel_rfl
  g4 := by kernel_rfl }
open Go.RowKit Go.Lib in
theorem Tryz.utf8_DecodeRuneInString (s : ByteArray) (w : World) (hT : Lib.Utf8Tabs 0 1 w) :
    Calls Tryz.prog 152 #[.string s] w fun e w' => e = .returned (.tuple #[.int .i32 (Lib.decodeGo s).1, .int .i64 (Lib.decodeGo s).2]) ∧ Below w.heap.size w w' := Any.utf8_DecodeRuneInString Tryz.lays197 s w hT
end Go.Proofs

/-
  What stands behind a place of a text, decoded.
-/
namespace Go.Proofs.YtnohonjjfjppoaaGreatDoor
open Go.RowKit
set_option linter.unusedVariables false
/-- What stands behind a place, decoded. -/
theorem decode_from (s : ByteArray) (i n : Nat) (hn : s.size = n) (h : i < n) (r : Int) (k : Nat) (hr : r = ((Utf8.decode s i).1 : Int)) (hk : k = (Utf8.decode s i).2) (w : World) (hT : Lib.Utf8Tabs 0 1 w) :
    Calls Tryz.prog 152 #[.string (s.extract i n)] w fun e w' => e = .returned (.tuple #[.int .i32 r, .int .i64 k]) ∧ Below w.heap.size w w' := by
  subst hn
  have e : Lib.decodeGo (s.extract i s.size) = Utf8.decode s i := by
    unfold Lib.decodeGo
    rw [if_neg (by rw [Lib.tail_size]; omega), Lib.tail_decode]
    rfl
  subst hr hk
  rw [← e]
  exact Tryz.utf8_DecodeRuneInString _ w hT
end Go.Proofs.YtnohonjjfjppoaaGreatDoor

/-
  strings.EqualFold of any text and ".git".
-/
namespace Go.Proofs.YtnohonjjfjppoaaGreatDoor
open Go.RowKit
set_option linter.unusedVariables false
set_option linter.unusedSimpArgs false
/-- The places of the table of simple folds that ".git" reads. -/
def FoldTab (w : World) : Prop := ∀ k v : Nat, (k = 46 ∧ v = 46) ∨ (k = 71 ∧ v = 103) ∨ (k = 73 ∧ v = 105) ∨ (k = 84 ∧ v = 116) ∨ (k = 103 ∧ v = 71) ∨ (k = 105 ∧ v = 73) ∨ (k = 116 ∧ v = 84) → w.cell? ⟨3, k, none⟩ = some (.int .u16 v)
theorem FoldTab.below {w w' : World} (h : FoldTab w) (hb : Below w.heap.size w w') : FoldTab w' := fun k v hk => by
  have := h k v hk
  exact (hb.cell (p := ⟨3, k, none⟩) (World.block_lt_of_cell? w _ this)).trans this
set_option maxHeartbeats 4000000 in
set_option maxRecDepth 100000 in
theorem SimpleFold_at (k v : Nat) (w : World) (hF : FoldTab w) (hk : (k = 46 ∧ v = 46) ∨ (k = 71 ∧ v = 103) ∨ (k = 73 ∧ v = 105) ∨ (k = 84 ∧ v = 116) ∨ (k = 103 ∧ v = 71) ∨ (k = 105 ∧ v = 73) ∨ (k = 116 ∧ v = 84)) :
    Calls Tryz.prog 153 #[.int .i32 k] w fun e w' => e = .returned (.int .i32 v) ∧ w' = w := by
  have hc := hF k v hk
  have h1 : k < 128 := by omega
  have h2 : v < 128 := by omega
  clear hF hk
  go_enter Tryz.func153, Tryz.ntmps153
  go_wp2
  go_ret
  exact ⟨rfl, rfl⟩
/-- What is there at the jump. -/
def AtJump (l : List UInt8) (s g : ByteArray) (w : World) (a : Act) (w' : World) : Prop :=
  Below w.heap.size w w' ∧ ∃ (i : Nat) (u4 u6 u7 u8 u14 u15 u16 u17 u18 u19 u20 u21 u22 u23 u24 u25 u26 u27 u28 u29 u30 u31 u32 u33 u34 u35 u36 u37 u38 u39 u40 u41 u42 u43 u44 u45 u46 u47 u48 u49 u50 u51 u52 u53 u54 : Value), a = { tmps := #[.string s, .string g, undef, undef, u4, .int .i64 i, u6, u7, u8, undef, undef, undef, undef, undef, u14, u15, u16, u17, u18, u19, u20, u21, u22, u23, u24, u25, u26, u27, u28, u29, u30, u31, u32, u33, u34, u35, u36, u37, u38, u39, u40, u41, u42, u43, u44, u45, u46, u47, u48, u49, u50, u51, u52, u53, u54, undef, undef, undef, undef, undef, undef, undef, undef, undef, undef, undef, undef, undef, undef, undef, undef, undef, undef, undef, undef, undef, undef, undef, undef, undef, undef, undef, undef, undef, undef, undef, undef, undef, undef, undef, undef, undef, undef, undef, undef, undef, undef, undef, undef, undef, undef, undef, undef, undef, undef, undef, undef, undef, undef, undef, undef, undef, undef, undef, undef, undef, undef, undef, undef, undef, undef, undef, undef], defers := [] } ∧ i < 4 ∧ i < l.length ∧ 128 ≤ (l.getD i 0).toNat
theorem or_four : ∀ x : Fin 256, (128 ≤ x.1 → 128 ≤ bits BinOp.or .u8 ((x.1 : Nat) : Int) 46 ∧ 128 ≤ bits BinOp.or .u8 ((x.1 : Nat) : Int) 103 ∧ 128 ≤ bits BinOp.or .u8 ((x.1 : Nat) : Int) 105 ∧ 128 ≤ bits BinOp.or .u8 ((x.1 : Nat) : Int) 116) ∧
    (x.1 < 128 → bits BinOp.or .u8 ((x.1 : Nat) : Int) 46 < 128 ∧ bits BinOp.or .u8 ((x.1 : Nat) : Int) 103 < 128 ∧ bits BinOp.or .u8 ((x.1 : Nat) : Int) 105 < 128 ∧ bits BinOp.or .u8 ((x.1 : Nat) : Int) 116 < 128) := by decide +kernel
theorem or_git (x y : UInt8) (h : y.toNat = 46 ∨ y.toNat = 103 ∨ y.toNat = 105 ∨ y.toNat = 116) : (128 ≤ x.toNat → 128 ≤ bits BinOp.or .u8 (x.toNat : Int) (y.toNat : Int)) ∧ (x.toNat < 128 → bits BinOp.or .u8 (x.toNat : Int) (y.toNat : Int) < 128) := by
  have k := or_four ⟨x.toNat, x.toNat_lt⟩
  simp only at k
  rcases h with h | h | h | h <;> rw [h]
  · exact ⟨fun a => (k.1 a).1, fun a => (k.2 a).1⟩
  · exact ⟨fun a => (k.1 a).2.1, fun a => (k.2 a).2.1⟩
  · exact ⟨fun a => (k.1 a).2.2.1, fun a => (k.2 a).2.2.1⟩
  · exact ⟨fun a => (k.1 a).2.2.2, fun a => (k.2 a).2.2.2⟩
theorem git_vals (i : Nat) (h : i < 4) : (gitL.getD i 0).toNat = 46 ∨ (gitL.getD i 0).toNat = 103 ∨ (gitL.getD i 0).toNat = 105 ∨ (gitL.getD i 0).toNat = 116 := by
  have : i = 0 ∨ i = 1 ∨ i = 2 ∨ i = 3 := by omega
  rcases this with rfl | rfl | rfl | rfl <;> decide
theorem low_nat (x : UInt8) : (lowB x).toNat = if 65 ≤ x.toNat ∧ x.toNat ≤ 90 then x.toNat + 32 else x.toNat := by
  have := x.toNat_lt
  unfold lowB
  split
  · rw [UInt8.toNat_ofNat']; omega
  · rfl
theorem git_short (l : List UInt8) (h : l.length ≠ 4) : l.map lowB ≠ gitL := fun e => h (by have := congrArg List.length e; simpa [gitL] using this)
set_option maxHeartbeats 16000000 in
set_option maxRecDepth 100000 in
theorem EqualFold_git (l : List UInt8) (w : World) (hn : l.length ≤ 1000000) (hF : FoldTab w) (hT : Lib.Utf8Tabs 0 1 w) :
    Calls Tryz.prog 129 #[.string ⟨l.toArray⟩, .string ⟨#[46, 103, 105, 116]⟩] w fun e w' => e = .returned (.bool (decide (l.map lowB = gitL))) ∧ Below w.heap.size w w' := by
  have GI : Hid (∀ i, i < 4 → ∀ h, (⟨#[46, 103, 105, 116]⟩ : ByteArray)[i]'h = gitL.getD i 0) := Lib.hid (fun i hi h => by
    have : i = 0 ∨ i = 1 ∨ i = 2 ∨ i = 3 := by omega
    rcases this with rfl | rfl | rfl | rfl <;> rfl)
  have hsz := size_toArray l
  have hget : ∀ i, i < l.length → ∀ h2 : i < (⟨l.toArray⟩ : ByteArray).size, (⟨l.toArray⟩ : ByteArray)[i]'h2 = l.getD i 0 := fun i h h2 => getD_str l i h h2
  obtain ⟨s, hs⟩ : ∃ s : ByteArray, s = ⟨l.toArray⟩ := ⟨_, rfl⟩
  have gsz : (⟨#[46, 103, 105, 116]⟩ : ByteArray).size = 4 := rfl
  obtain ⟨g, hg⟩ : ∃ g : ByteArray, g = ⟨#[46, 103, 105, 116]⟩ := ⟨_, rfl⟩
  rw [← hs] at hsz hget ⊢
  rw [← hg] at gsz GI ⊢
  have HGET := Lib.hid hget
  have HS := Lib.hid hs
  have HG := Lib.hid hg
  have HF := Lib.hid hF
  have HT := Lib.hid hT
  clear hs hget hg hF hT
  obtain ⟨M, hM⟩ : ∃ M : Nat, min (l.length : Int) 4 = (M : Int) := ⟨min l.length 4, by omega⟩
  have hM1 : M ≤ 4 := by omega
  have hM2 : M ≤ l.length := by omega
  have HM : Hid (M = 4 ∨ M = l.length) := Lib.hid (by omega)
  go_enter Tryz.func129, Tryz.ntmps129
  go_wp2
  refine wp_scope_jumps 0 (AtJump l s g w) (fun _ _ => 0) rfl ?_ ?_
  · go_wp2
    go_loopw [5] (fun vi wr => ∃ i : Nat, i ≤ M ∧ vi = .int .i64 i ∧ Below w.heap.size w wr ∧ Hid (∀ j, j < i → (lowB (l.getD j 0)).toNat = (gitL.getD j 0).toNat)) (fun vi _ => 4 - (intOf vi).toNat)
    case atStart => exact ⟨0, Nat.zero_le _, rfl, Below.refl _ _, Lib.hid fun j h => absurd h (Nat.not_lt_zero _)⟩
    case round =>
      clear hM
      obtain ⟨i, hi, rfl, hbr, HALL⟩ := hrel
      by_cases hlt : i < M
      · have hx := HGET.out i (by omega) (by omega)
        have hy := GI.out i (by omega) (by omega)
        have gv := git_vals i (by omega)
        obtain ⟨x, hxe⟩ : ∃ x : UInt8, x = l.getD i 0 := ⟨_, rfl⟩
        obtain ⟨y, hye⟩ : ∃ y : UInt8, y = gitL.getD i 0 := ⟨_, rfl⟩
        rw [← hxe] at hx
        rw [← hye] at hy gv
        have XE := Lib.hid hxe
        have YE := Lib.hid hye
        have LX := low_nat x
        have x8 := x.toNat_lt
        clear hxe hye
        by_cases h128 : 128 ≤ x.toNat
        · have hor := (or_git x y gv).1 h128
          have H128 := Lib.hid h128
          clear h128 gv LX
          go_wp2_with fail
          go_step3
          exact ⟨rfl, hbr, i, _, _, _, _, _, _, _, _, _, _, _, _, _, _, _, _, _, _, _, _, _, _, _, _, _, _, _, _, _, _, _, _, _, _, _, _, _, _, _, _, _, _, _, _, _, rfl, by omega, by omega, by rw [← XE.out]; exact H128.out⟩
        · have hor := (or_git x y gv).2 (by omega)
          have ST : Hid (i + 1 ≤ M) := Lib.hid (by omega)
          have NX : (lowB x).toNat = y.toNat → Hid (∀ j, j < i + 1 → (lowB (l.getD j 0)).toNat = (gitL.getD j 0).toNat) := fun h => Lib.hid fun j hj => by
            by_cases h2 : j < i
            · exact HALL.out j h2
            · obtain rfl : j = i := by omega
              rw [← XE.out, ← YE.out]
              exact h
          have NO : (lowB x).toNat ≠ y.toNat → Hid (decide (l.map lowB = gitL) = false) := fun h => Lib.hid (decide_eq_false (git_not l i (by omega) (by rw [← XE.out, ← YE.out]; exact h)))
          by_cases e0 : y.toNat = x.toNat
          · have f0 : ((y.toNat : Int) == (x.toNat : Int)) = true := by simp [e0]
            have R := NX (by rw [LX]; rw [if_neg (by omega)]; omega)
            clear NX NO LX gv e0
            go_wp2
            go_roundw
            case rel => exact ⟨i + 1, ST.out, by go_num, hbr, R⟩
            case measure => simp [intOf]; omega
          · have f0 : ((y.toNat : Int) == (x.toNat : Int)) = false := by simp; omega
            by_cases e1 : y.toNat < x.toNat
            · have R := NO (by rw [LX]; split <;> omega)
              have q : ¬ 65 ≤ y.toNat ∨ (65 ≤ y.toNat ∧ ¬ y.toNat ≤ 90) := by omega
              clear NX NO LX gv
              rcases q with q | ⟨q1, q2⟩
              · go_wp2
                simp only [Exit.jump]
                go_ret
                exact ⟨ret_bool R.out.symm, hbr⟩
              · go_wp2
                simp only [Exit.jump]
                go_ret
                exact ⟨ret_bool R.out.symm, hbr⟩
            · by_cases h65 : 65 ≤ x.toNat
              · by_cases h90 : x.toNat ≤ 90
                · by_cases h32 : y.toNat = x.toNat + 32
                  · have R := NX (by rw [LX, if_pos ⟨h65, h90⟩]; omega)
                    have f3 : ((y.toNat : Int) == (x.toNat : Int) + 32) = true := by simp; omega
                    have f4 : ((y.toNat : Int) == (x.toNat : Int) + 97 - 65) = true := by simp; omega
                    have hw : ((x.toNat : Int) + 97 - 65) = (x.toNat : Int) + 32 := by omega
                    clear NX NO LX gv h32
                    go_wp2
                    go_roundw
                    case rel => exact ⟨i + 1, ST.out, by go_num, hbr, R⟩
                    case measure => simp [intOf]; omega
                  · have R := NO (by rw [LX, if_pos ⟨h65, h90⟩]; omega)
                    have f3 : ((y.toNat : Int) == (x.toNat : Int) + 32) = false := by simp; omega
                    have f4 : ((y.toNat : Int) == (x.toNat : Int) + 97 - 65) = false := by simp; omega
                    clear NX NO LX gv
                    go_wp2
                    simp only [Exit.jump]
                    go_ret
                    exact ⟨ret_bool R.out.symm, hbr⟩
                · have R := NO (by rw [LX, if_neg (by omega)]; omega)
                  clear NX NO LX gv
                  go_wp2
                  simp only [Exit.jump]
                  go_ret
                  exact ⟨ret_bool R.out.symm, hbr⟩
              · have R := NO (by rw [LX, if_neg (by omega)]; omega)
                clear NX NO LX gv
                go_wp2
                simp only [Exit.jump]
                go_ret
                exact ⟨ret_bool R.out.symm, hbr⟩
      · obtain rfl : i = M := by omega
        by_cases h4 : l.length = 4
        · have f4 : ((l.length : Int) == 4) = true := by simp [h4]
          have R : Hid (decide (l.map lowB = gitL) = true) := Lib.hid (decide_eq_true (git_at l h4 (fun j hj => HALL.out j (by have := HM.out; omega))))
          clear h4
          go_wp2
          simp only [Exit.jump]
          go_ret
          exact ⟨ret_bool R.out.symm, hbr⟩
        · have f4 : ((l.length : Int) == 4) = false := by simp; omega
          have R : Hid (decide (l.map lowB = gitL) = false) := Lib.hid (decide_eq_false (git_short l h4))
          clear h4
          go_wp2
          simp only [Exit.jump]
          go_ret
          exact ⟨ret_bool R.out.symm, hbr⟩
  · rintro a' w' ⟨hb, i, u4, u6, u7, u8, u14, u15, u16, u17, u18, u19, u20, u21, u22, u23, u24, u25, u26, u27, u28, u29, u30, u31, u32, u33, u34, u35, u36, u37, u38, u39, u40, u41, u42, u43, u44, u45, u46, u47, u48, u49, u50, u51, u52, u53, u54, rfl, hi4, hil, h128⟩
    clear hM hM1 hM2 HM
    have R : Hid (decide (l.map lowB = gitL) = false) := Lib.hid (decide_eq_false (git_not l i hil (by
      have h1 := low_nat (l.getD i 0)
      have h2 := git_vals i hi4
      rw [h1, if_neg (by omega)]
      omega)))
    -- what stands behind the place in either text
    have hp : s.extract i l.length = ⟨(l.drop i).toArray⟩ := by rw [HS.out]; exact ext_drop l i
    obtain ⟨r, k, hr, hk, hr0, hr1, hk1, hkl, hw⟩ := rune_int (l.drop i) 0 (by simp; omega)
    have h128r : 128 ≤ r := by
      rcases hw with ⟨_, h, _⟩ | ⟨h, _, _⟩
      · rw [Lib.getD_dropU] at h
        simp only [Nat.add_zero] at h
        omega
      · exact h
    obtain ⟨m, hm⟩ : ∃ m, i + m = 4 := ⟨4 - i, by omega⟩
    have hqs : (g.extract i 4).size = m := by simp [ByteArray.size_extract, gsz]; omega
    obtain ⟨y, hy⟩ : ∃ y : Nat, y = (gitL.getD i 0).toNat := ⟨_, rfl⟩
    have gv := git_vals i hi4
    rw [← hy] at gv
    have hdec : Utf8.decode g i = (y, 1) := by
      have h1 : i < g.size := by omega
      have h2 := GI.out i hi4 h1
      rw [decode_ascii g i h1 (by rw [h2]; omega), h2, hy]
    have cD := fun w h => decode_from g i 4 gsz hi4 (y : Int) 1 (by rw [hdec]) (by rw [hdec]) w h
    have hsp : (⟨(l.drop i).toArray⟩ : ByteArray).size = l.length - i := by rw [size_toArray, List.length_drop]
    obtain ⟨pp, hpp⟩ : ∃ pp : ByteArray, pp = ⟨(l.drop i).toArray⟩ := ⟨_, rfl⟩
    rw [← hpp] at hp hr hk hsp
    obtain ⟨qq, hqq⟩ : ∃ qq : ByteArray, g.extract i 4 = qq := ⟨_, rfl⟩
    rw [hqq] at hqs cD
    have hnx := fun ty => run_next_any (P := Tryz.prog) w' pp 0 ty (by omega)
    rw [← hr, ← hk] at hnx
    simp only [Nat.zero_add] at hnx
    obtain ⟨v, hv, hv2⟩ : ∃ v : Nat, ((y = 46 ∧ v = 46) ∨ (y = 71 ∧ v = 103) ∨ (y = 73 ∧ v = 105) ∨ (y = 84 ∧ v = 116) ∨ (y = 103 ∧ v = 71) ∨ (y = 105 ∧ v = 73) ∨ (y = 116 ∧ v = 84)) ∧ ((v = 46 ∧ y = 46) ∨ (v = 71 ∧ y = 103) ∨ (v = 73 ∧ y = 105) ∨ (v = 84 ∧ y = 116) ∨ (v = 103 ∧ y = 71) ∨ (v = 105 ∧ y = 73) ∨ (v = 116 ∧ y = 84)) := by
      rcases gv with h | h | h | h
      · exact ⟨46, by omega, by omega⟩
      · exact ⟨71, by omega, by omega⟩
      · exact ⟨73, by omega, by omega⟩
      · exact ⟨84, by omega, by omega⟩
    have cF := fun w h => SimpleFold_at y v w h hv
    have cF2 := fun w h => SimpleFold_at v y w h hv2
    have hyr : (y : Int) < r := by omega
    have hvr : (v : Int) < r := by omega
    have f1 : ((y : Int) == r) = false := by simp; omega
    have f2 : ((v : Int) == r) = false := by simp; omega
    have hm0 : ((m : Int) == 0) = false := by simp; omega
    have hm1 : (1 : Int) ≤ (m : Int) := by omega
    have hi4z : (i : Int) ≤ 4 := by omega
    have hilz : (i : Int) ≤ (l.length : Int) := by omega
    have hb2 : Below w.heap.size w (w'.iter pp k) := hb.alloc hb.size _
    have HB2 := Lib.hid hb2
    have CD := Lib.hid cD
    have CF := Lib.hid cF
    have CF2 := Lib.hid cF2
    have EV : Hid (v = y ∨ ((v : Int) != (y : Int)) = true) := Lib.hid (by
      by_cases h : v = y
      · exact .inl h
      · right; simp; omega)
    clear hv hv2 gv hdec hpp hr hk hw hkl cD cF cF2 hb2 h128 hy
    go_wp2_with fail
    refine wp_loop_rounds 1 ?_
    rw [rounds_succ]
    go_wp2_with fail
    refine (CD.out _ (Utf8Tabs_below HT.out HB2.out)).mono ?_
    rintro e w3 ⟨rfl, b3⟩
    have hb3 := HB2.out.trans (b3.mono HB2.out.size)
    go_wp2_with fail
    refine (CF.out _ (HF.out.below hb3)).mono ?_
    rintro e w4 ⟨rfl, rfl⟩
    rcases EV.out with h | h
    · subst h
      have f3 : ((v : Int) != (v : Int)) = false := by simp
      go_wp2_with fail
      refine wp_loop_rounds 1 ?_
      rw [rounds_succ]
      go_wp2
      simp only [Exit.jump]
      go_ret
      exact ⟨ret_bool R.out.symm, hb3⟩
    · have f3 : ((y : Int) != (y : Int)) = false := by simp
      go_wp2_with fail
      refine wp_loop_rounds 2 ?_
      rw [rounds_succ]
      go_wp2_with fail
      refine (CF2.out _ (HF.out.below hb3)).mono ?_
      rintro e w5 ⟨rfl, rfl⟩
      go_wp2_with fail
      rw [rounds_succ]
      go_wp2
      simp only [Exit.jump]
      go_ret
      exact ⟨ret_bool R.out.symm, hb3⟩
end Go.Proofs.YtnohonjjfjppoaaGreatDoor
