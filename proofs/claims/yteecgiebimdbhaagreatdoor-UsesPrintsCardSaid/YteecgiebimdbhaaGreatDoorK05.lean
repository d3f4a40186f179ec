/-
  Several texts in one.
-/
import Derived.Test.YteecgiebimdbhaaGreatDoorK04
import Derived.Shelf.Strings.Builder1
import Derived.Shelf.Small.Bits
import Derived.Shelf.Small.Strs
import Derived.Shelf.Strings.BuilderF
import Derived.Shelf.Strings.BuilderK
import Derived.Shelf.Strconv.Atoi
import Derived.Shelf.Strconv.Itoa0
import Derived.Shelf.Strconv.Itoa1
import Derived.Shelf.LaysM
import Derived.Shelf.Strconv.Itoa2
import Derived.Shelf.Strconv.Itoa3
import Derived.Shelf.Strconv.AtoiErrFast
import Derived.Shelf.Strconv.ParseIntEmpty
import Derived.Shelf.Strconv.AtoiFail
import Derived.Shelf.Strconv.Clone
import Derived.Shelf.Strconv.SyntaxError
import Derived.Shelf.LaysC
import Derived.Shelf.Strconv.ToError
import Derived.Shelf.Strconv.AtoiErr
import Derived.Shelf.Strconv.ErrVar
import Derived.Shelf.Strconv.Lower
import Derived.Shelf.Strconv.ParseUint10
import Derived.Shelf.Strconv.ParseUint10Empty
import Derived.Shelf.Strconv.ParseUint10Any
import Derived.Shelf.Strconv.ParseInt10
import Derived.Shelf.Strconv.AtoiLong
import Derived.Shelf.Strconv.AtoiInnerAll
import Derived.Shelf.Strconv.RangeError
import Derived.Shelf.Strconv.ToErrorRange
import Derived.Shelf.Strconv.AtoiAll
import Derived.Shelf.Strconv.ErrVarAll
import Derived.Shelf.Strings.Search1
import Derived.Shelf.Sort.Plain
import Derived.Shelf.Strings.Prefix
import Derived.Shelf.Slices.Turned
import Derived.Shelf.Slices.Equal
import Derived.Shelf.Slices.In.SortNone
import Derived.Shelf.Slices.Empties2
import Derived.Lib.AtoiErrMem
import Derived.Test.YteecgiebimdbhaaGreatDoorProg
set_option maxRecDepth 100000
set_option maxHeartbeats 4000000
/- The library contracts of the shelf that this translation can use, each laid by one application. -/
namespace Go.Proofs
open Go.Shelf
def Tryz.lays169_ren : Go.Shelf.Ren := ⟨fun | 169 => 25 | n => n, fun | 70 => 61 | 9 => 9 | 0 => 0 | 72 => 64 | 37 => 62 | 127 => 102 | 3 => 3 | 5 => 5 | n => n, fun | n => n⟩
theorem Tryz.lays169 : Go.Proofs.Lays.n169 Tryz.prog Tryz.lays169_ren := {
  mixed := by kernel_rfl
  f169 := Tryz.func25.trans (congrArg some (by kernel_rfl))
  t0 := Tryz.underlying0
  a0 := Tryz.isAgg0
  z0 := Tryz.sizeOf0
  v0 := Tryz.zeroValue0
  t3 := Tryz.underlying3
  a3 := Tryz.isAgg3
  z3 := Tryz.sizeOf3
  v3 := Tryz.zeroValue3
  t9 := Tryz.underlying9
  a9 := Tryz.isAgg9
  z9 := Tryz.sizeOf9
  v9 := Tryz.zeroValue9
  t37 := Tryz.underlying62
  a37 := Tryz.isAgg62
  z37 := Tryz.sizeOf62
  v37 := Tryz.zeroValue62
  t70 := Tryz.underlying61
  a70 := Tryz.isAgg61
  z70 := Tryz.sizeOf61
  v70 := Tryz.zeroValue61
  t72 := Tryz.underlying64
  a72 := Tryz.isAgg64
  z72 := Tryz.sizeOf64
  v72 := Tryz.zeroValue64
  t127 := Tryz.underlying102
  a127 := Tryz.isAgg102
  z127 := Tryz.sizeOf102
  v127 := Tryz.zeroValue102 }
theorem Tryz.Builder_Extra_169 : Builder.Extra Tryz.prog Tryz.lays169_ren := {
  sizeBuilder := by kernel_rfl
  liesBuilder := by kernel_rfl
  t5 := Tryz.underlying5
  a5 := Tryz.isAgg5
  z5 := Tryz.sizeOf5
  v5 := Tryz.zeroValue5
  infoByte := by kernel_rfl
  cellsByte := by kernel_rfl
  sizeByte := by kernel_rfl
  neB5 := by decide }
open Go.RowKit in
theorem Tryz.Builder_String_any (B b : Nat) (l : List UInt8) (w : World) (h : Lib.IsBuilder 64 5 B b (Lib.byteCells l) w) (hBw : B <= w.heap.size) :
    Calls Tryz.prog 25 #[.pointer (some ⟨b, 0, none⟩)] w fun e w' => e = .returned (.string ⟨l.toArray⟩) /\ Below B w w' := Any.Builder_String_any Tryz.lays169 Tryz.Builder_Extra_169 B b l w h hBw
open Go.RowKit in
def Tryz.lays137_ren : Go.Shelf.Ren := ⟨fun | 137 => 190 | 217 => 229 | 266 => 257 | n => n, fun | 9 => 9 | 5 => 5 | 3 => 3 | n => n, fun | n => n⟩
theorem Tryz.lays137 : Go.Proofs.Lays.n137 Tryz.prog Tryz.lays137_ren := {
  mixed := by kernel_rfl
  f137 := Tryz.func190.trans (congrArg some (by kernel_rfl))
  f217 := Tryz.func229.trans (congrArg some (by kernel_rfl))
  f266 := Tryz.func257.trans (congrArg some (by kernel_rfl))
  t3 := Tryz.underlying3
  a3 := Tryz.isAgg3
  z3 := Tryz.sizeOf3
  v3 := Tryz.zeroValue3
  t5 := Tryz.underlying5
  a5 := Tryz.isAgg5
  z5 := Tryz.sizeOf5
  v5 := Tryz.zeroValue5
  t9 := Tryz.underlying9
  a9 := Tryz.isAgg9
  z9 := Tryz.sizeOf9
  v9 := Tryz.zeroValue9 }
open Go.RowKit in
theorem Tryz.strings_IndexByte (s : ByteArray) (c : Int) (w : World) :
    Calls Tryz.prog 190 #[.string s, .int .u8 c] w fun e w' => e = .returned (.int .i64 (Lib.indexByte s.data.toList c.toNat.toUInt8)) /\ w' = w := Any.strings_IndexByte Tryz.lays137 s c w
open Go.RowKit in
def Tryz.lays172_ren : Go.Shelf.Ren := ⟨fun | 172 => 192 | 244 => 231 | 245 => 232 | 247 => 258 | 279 => 259 | 280 => 260 | 281 => 261 | 282 => 262 | 287 => 279 | 316 => 149 | 171 => 51 | 205 => 280 | 321 => 300 | 322 => 301 | 243 => 92 | 246 => 133 | 283 => 185 | 284 => 186 | 285 => 187 | 286 => 188 | 129 => 221 | 317 => 220 | 318 => 222 | 319 => 223 | 320 => 224 | 337 => 255 | 338 => 256 | n => n, fun | 9 => 9 | 3 => 3 | 75 => 29 | 76 => 65 | 4 => 4 | 5 => 5 | 167 => 299 | 37 => 62 | 0 => 0 | 85 => 300 | 2 => 2 | 168 => 302 | 53 => 237 | 175 => 325 | 46 => 268 | 210 => 328 | 127 => 102 | 145 => 344 | 143 => 342 | 21 => 21 | 171 => 236 | 173 => 240 | 212 => 264 | 51 => 265 | 20 => 20 | 213 => 266 | 232 => 323 | 233 => 324 | 80 => 69 | n => n, fun | 15 => 5 | 16 => 6 | 17 => 1 | 18 => 2 | 19 => 3 | n => n⟩
open Go.RowKit Go.Sort Go.Lib in
def Tryz.laysM246_ren : Go.Shelf.Ren := ⟨fun | 246 => 133 | 283 => 185 | 284 => 186 | 285 => 187 | 286 => 188 | 129 => 221 | 317 => 220 | 318 => 222 | 319 => 223 | 320 => 224 | 337 => 255 | 338 => 256 | n => n, fun | 2 => 2 | 3 => 3 | 9 => 9 | 4 => 4 | 171 => 236 | 0 => 0 | 53 => 237 | 37 => 62 | 5 => 5 | 173 => 240 | 212 => 264 | 51 => 265 | 20 => 20 | 213 => 266 | 46 => 268 | 232 => 323 | 233 => 324 | n => n, fun | 17 => 1 | 18 => 2 | 19 => 3 | n => n⟩
open Go.RowKit Go.Sort Go.Lib in
def Tryz.laysM243_ren : Go.Shelf.Ren := ⟨fun | 243 => 92 | 246 => 133 | 283 => 185 | 284 => 186 | 285 => 187 | 286 => 188 | 129 => 221 | 317 => 220 | 318 => 222 | 319 => 223 | 320 => 224 | 337 => 255 | 338 => 256 | n => n, fun | 3 => 3 | 9 => 9 | 2 => 2 | 4 => 4 | 171 => 236 | 0 => 0 | 53 => 237 | 37 => 62 | 5 => 5 | 173 => 240 | 212 => 264 | 51 => 265 | 20 => 20 | 213 => 266 | 46 => 268 | 232 => 323 | 233 => 324 | n => n, fun | 17 => 1 | 18 => 2 | 19 => 3 | n => n⟩
open Go.RowKit Go.Sort Go.Lib in
def Tryz.laysM171_ren : Go.Shelf.Ren := ⟨fun | 171 => 51 | 243 => 92 | 246 => 133 | 283 => 185 | 284 => 186 | 285 => 187 | 286 => 188 | 129 => 221 | 317 => 220 | 318 => 222 | 319 => 223 | 320 => 224 | 337 => 255 | 338 => 256 | n => n, fun | 3 => 3 | 9 => 9 | 2 => 2 | 4 => 4 | 171 => 236 | 0 => 0 | 53 => 237 | 37 => 62 | 5 => 5 | 173 => 240 | 212 => 264 | 51 => 265 | 20 => 20 | 213 => 266 | 46 => 268 | 232 => 323 | 233 => 324 | n => n, fun | 17 => 1 | 18 => 2 | 19 => 3 | n => n⟩
theorem Tryz.laysM171 : Go.Proofs.LaysM.n171 Tryz.prog Tryz.laysM171_ren := {
  mixed := by kernel_rfl
  f129 := Tryz.func221.trans (congrArg some (by kernel_rfl))
  f171 := Tryz.func51.trans (congrArg some (by kernel_rfl))
  f243 := Tryz.func92.trans (congrArg some (by kernel_rfl))
  f246 := Tryz.func133.trans (congrArg some (by kernel_rfl))
  f283 := Tryz.func185.trans (congrArg some (by kernel_rfl))
  f284 := Tryz.func186.trans (congrArg some (by kernel_rfl))
  f285 := Tryz.func187.trans (congrArg some (by kernel_rfl))
  f286 := Tryz.func188.trans (congrArg some (by kernel_rfl))
  f317 := Tryz.func220.trans (congrArg some (by kernel_rfl))
  f318 := Tryz.func222.trans (congrArg some (by kernel_rfl))
  f319 := Tryz.func223.trans (congrArg some (by kernel_rfl))
  f320 := Tryz.func224.trans (congrArg some (by kernel_rfl))
  f337 := Tryz.func255.trans (congrArg some (by kernel_rfl))
  f338 := Tryz.func256.trans (congrArg some (by kernel_rfl))
  t0 := Tryz.underlying0
  a0 := Tryz.isAgg0
  z0 := Tryz.sizeOf0
  v0 := Tryz.zeroValue0
  t2 := Tryz.underlying2
  a2 := Tryz.isAgg2
  z2 := Tryz.sizeOf2
  v2 := Tryz.zeroValue2
  t3 := Tryz.underlying3
  a3 := Tryz.isAgg3
  z3 := Tryz.sizeOf3
  v3 := Tryz.zeroValue3
  t4 := Tryz.underlying4
  a4 := Tryz.isAgg4
  z4 := Tryz.sizeOf4
  v4 := Tryz.zeroValue4
  t5 := Tryz.underlying5
  a5 := Tryz.isAgg5
  z5 := Tryz.sizeOf5
  v5 := Tryz.zeroValue5
  t9 := Tryz.underlying9
  a9 := Tryz.isAgg9
  z9 := Tryz.sizeOf9
  v9 := Tryz.zeroValue9
  t20 := Tryz.underlying20
  a20 := Tryz.isAgg20
  z20 := Tryz.sizeOf20
  v20 := Tryz.zeroValue20
  t37 := Tryz.underlying62
  a37 := Tryz.isAgg62
  z37 := Tryz.sizeOf62
  v37 := Tryz.zeroValue62
  t46 := Tryz.underlying268
  a46 := Tryz.isAgg268
  z46 := Tryz.sizeOf268
  v46 := Tryz.zeroValue268
  t51 := Tryz.underlying265
  a51 := Tryz.isAgg265
  z51 := Tryz.sizeOf265
  v51 := Tryz.zeroValue265
  t53 := Tryz.underlying237
  a53 := Tryz.isAgg237
  z53 := Tryz.sizeOf237
  v53 := Tryz.zeroValue237
  t171 := Tryz.underlying236
  a171 := Tryz.isAgg236
  z171 := Tryz.sizeOf236
  v171 := Tryz.zeroValue236
  t173 := Tryz.underlying240
  a173 := Tryz.isAgg240
  z173 := Tryz.sizeOf240
  v173 := Tryz.zeroValue240
  t212 := Tryz.underlying264
  a212 := Tryz.isAgg264
  z212 := Tryz.sizeOf264
  v212 := Tryz.zeroValue264
  t213 := Tryz.underlying266
  a213 := Tryz.isAgg266
  z213 := Tryz.sizeOf266
  t232 := Tryz.underlying323
  a232 := Tryz.isAgg323
  z232 := Tryz.sizeOf323
  v232 := Tryz.zeroValue323
  t233 := Tryz.underlying324
  a233 := Tryz.isAgg324
  z233 := Tryz.sizeOf324
  v233 := Tryz.zeroValue324
  g17 := by kernel_rfl
  g18 := by kernel_rfl
  g19 := by kernel_rfl
  i0 := by kernel_rfl
  i2 := by kernel_rfl
  i3 := by kernel_rfl
  i4 := by kernel_rfl
  i5 := by kernel_rfl
  i9 := by kernel_rfl
  i20 := by kernel_rfl
  i37 := by kernel_rfl
  i46 := by kernel_rfl
  i51 := by kernel_rfl
  i53 := by kernel_rfl
  i171 := by kernel_rfl
  i173 := by kernel_rfl
  i212 := by kernel_rfl
  i232 := by kernel_rfl
  i233 := by kernel_rfl
  m17 := by kernel_rfl
  m18 := by kernel_rfl
  m19 := by kernel_rfl }
open Go.RowKit Go.Sort Go.Lib in
theorem Tryz.strconv_Itoa (n : Int) (h0 : -9223372036854775808 <= n) (h1 : n <= 9223372036854775807) (w : World) (htab : Lib.TabIs Tryz.prog w "internal/strconv.uint64pow10" .u64 Lib.pow10Tab) :
    Calls Tryz.prog 51 #[.int .i64 n] w fun e w' => e = .returned (.string ⟨(Lib.itoa n).toArray⟩) /\ ∃ k os, w' = grow (w.drewN k) os := Any.strconv_Itoa Tryz.laysM171 n h0 h1 w htab
open Go.RowKit in
def Tryz.laysM316_ren : Go.Shelf.Ren := ⟨fun | 316 => 149 | n => n, fun | 9 => 9 | 3 => 3 | 4 => 4 | 37 => 62 | 0 => 0 | 127 => 102 | 5 => 5 | n => n, fun | n => n⟩
theorem Tryz.laysM316 : Go.Proofs.LaysM.n316 Tryz.prog Tryz.laysM316_ren := {
  mixed := by kernel_rfl
  f316 := Tryz.func149.trans (congrArg some (by kernel_rfl))
  t0 := Tryz.underlying0
  a0 := Tryz.isAgg0
  z0 := Tryz.sizeOf0
  v0 := Tryz.zeroValue0
  t3 := Tryz.underlying3
  a3 := Tryz.isAgg3
  z3 := Tryz.sizeOf3
  v3 := Tryz.zeroValue3
  t4 := Tryz.underlying4
  a4 := Tryz.isAgg4
  z4 := Tryz.sizeOf4
  v4 := Tryz.zeroValue4
  t9 := Tryz.underlying9
  a9 := Tryz.isAgg9
  z9 := Tryz.sizeOf9
  v9 := Tryz.zeroValue9
  t37 := Tryz.underlying62
  a37 := Tryz.isAgg62
  z37 := Tryz.sizeOf62
  v37 := Tryz.zeroValue62
  t127 := Tryz.underlying102
  a127 := Tryz.isAgg102
  z127 := Tryz.sizeOf102
  v127 := Tryz.zeroValue102
  t5 := Tryz.underlying5
  a5 := Tryz.isAgg5
  z5 := Tryz.sizeOf5
  v5 := Tryz.zeroValue5
  i0 := by kernel_rfl
  i3 := by kernel_rfl
  i4 := by kernel_rfl
  i5 := by kernel_rfl
  i9 := by kernel_rfl
  i37 := by kernel_rfl
  i127 := by kernel_rfl }
open Go.RowKit in
theorem Tryz.stringslite_Clone (s : ByteArray) (w : World) (hlim : s.size <= 281474976710656) :
    Calls Tryz.prog 149 #[.string s] w fun e w' => e = .returned (.string s) /\ Below w.heap.size w w' := Any.stringslite_Clone Tryz.laysM316 s w hlim
open Go.RowKit in
def Tryz.laysC172_ren : Go.Shelf.Ren := ⟨fun | 172 => 192 | 244 => 231 | 245 => 232 | 247 => 258 | 279 => 259 | 280 => 260 | 281 => 261 | 282 => 262 | 287 => 279 | 316 => 149 | 171 => 51 | 205 => 280 | 321 => 300 | 322 => 301 | 243 => 92 | 246 => 133 | 283 => 185 | 284 => 186 | 285 => 187 | 286 => 188 | 129 => 221 | 317 => 220 | 318 => 222 | 319 => 223 | 320 => 224 | 337 => 255 | 338 => 256 | n => n, fun | 9 => 9 | 3 => 3 | 75 => 29 | 76 => 65 | 4 => 4 | 5 => 5 | 167 => 299 | 37 => 62 | 0 => 0 | 85 => 300 | 2 => 2 | 168 => 302 | 53 => 237 | 175 => 325 | 46 => 268 | 210 => 328 | 127 => 102 | 145 => 344 | 143 => 342 | 21 => 21 | 171 => 236 | 173 => 240 | 212 => 264 | 51 => 265 | 20 => 20 | 213 => 266 | 232 => 323 | 233 => 324 | 80 => 69 | n => n, fun | 15 => 5 | 16 => 6 | 17 => 1 | 18 => 2 | 19 => 3 | n => n⟩
theorem Tryz.laysC172 : Go.Proofs.LaysC.n172 Tryz.prog Tryz.laysC172_ren := {
  mixed := by kernel_rfl
  f129 := Tryz.func221.trans (congrArg some (by kernel_rfl))
  f171 := Tryz.func51.trans (congrArg some (by kernel_rfl))
  f172 := Tryz.func192.trans (congrArg some (by kernel_rfl))
  f205 := Tryz.func280.trans (congrArg some (by kernel_rfl))
  f243 := Tryz.func92.trans (congrArg some (by kernel_rfl))
  f244 := Tryz.func231.trans (congrArg some (by kernel_rfl))
  f245 := Tryz.func232.trans (congrArg some (by kernel_rfl))
  f246 := Tryz.func133.trans (congrArg some (by kernel_rfl))
  f247 := Tryz.func258.trans (congrArg some (by kernel_rfl))
  f279 := Tryz.func259.trans (congrArg some (by kernel_rfl))
  f280 := Tryz.func260.trans (congrArg some (by kernel_rfl))
  f281 := Tryz.func261.trans (congrArg some (by kernel_rfl))
  f282 := Tryz.func262.trans (congrArg some (by kernel_rfl))
  f283 := Tryz.func185.trans (congrArg some (by kernel_rfl))
  f284 := Tryz.func186.trans (congrArg some (by kernel_rfl))
  f285 := Tryz.func187.trans (congrArg some (by kernel_rfl))
  f286 := Tryz.func188.trans (congrArg some (by kernel_rfl))
  f287 := Tryz.func279.trans (congrArg some (by kernel_rfl))
  f316 := Tryz.func149.trans (congrArg some (by kernel_rfl))
  f317 := Tryz.func220.trans (congrArg some (by kernel_rfl))
  f318 := Tryz.func222.trans (congrArg some (by kernel_rfl))
  f319 := Tryz.func223.trans (congrArg some (by kernel_rfl))
  f320 := Tryz.func224.trans (congrArg some (by kernel_rfl))
  f321 := Tryz.func300.trans (congrArg some (by kernel_rfl))
  f322 := Tryz.func301.trans (congrArg some (by kernel_rfl))
  f337 := Tryz.func255.trans (congrArg some (by kernel_rfl))
  f338 := Tryz.func256.trans (congrArg some (by kernel_rfl))
  t0 := Tryz.underlying0
  a0 := Tryz.isAgg0
  z0 := Tryz.sizeOf0
  v0 := Tryz.zeroValue0
  t2 := Tryz.underlying2
  a2 := Tryz.isAgg2
  z2 := Tryz.sizeOf2
  v2 := Tryz.zeroValue2
  t3 := Tryz.underlying3
  a3 := Tryz.isAgg3
  z3 := Tryz.sizeOf3
  v3 := Tryz.zeroValue3
  t4 := Tryz.underlying4
  a4 := Tryz.isAgg4
  z4 := Tryz.sizeOf4
  v4 := Tryz.zeroValue4
  t5 := Tryz.underlying5
  a5 := Tryz.isAgg5
  z5 := Tryz.sizeOf5
  v5 := Tryz.zeroValue5
  t9 := Tryz.underlying9
  a9 := Tryz.isAgg9
  z9 := Tryz.sizeOf9
  v9 := Tryz.zeroValue9
  t20 := Tryz.underlying20
  a20 := Tryz.isAgg20
  z20 := Tryz.sizeOf20
  v20 := Tryz.zeroValue20
  t21 := Tryz.underlying21
  a21 := Tryz.isAgg21
  z21 := Tryz.sizeOf21
  v21 := Tryz.zeroValue21
  t37 := Tryz.underlying62
  a37 := Tryz.isAgg62
  z37 := Tryz.sizeOf62
  v37 := Tryz.zeroValue62
  t46 := Tryz.underlying268
  a46 := Tryz.isAgg268
  z46 := Tryz.sizeOf268
  v46 := Tryz.zeroValue268
  t51 := Tryz.underlying265
  a51 := Tryz.isAgg265
  z51 := Tryz.sizeOf265
  v51 := Tryz.zeroValue265
  t53 := Tryz.underlying237
  a53 := Tryz.isAgg237
  z53 := Tryz.sizeOf237
  v53 := Tryz.zeroValue237
  t75 := Tryz.underlying29
  a75 := Tryz.isAgg29
  z75 := Tryz.sizeOf29
  v75 := Tryz.zeroValue29
  t76 := Tryz.underlying65
  a76 := Tryz.isAgg65
  z76 := Tryz.sizeOf65
  v76 := Tryz.zeroValue65
  t85 := Tryz.underlying300
  a85 := Tryz.isAgg300
  z85 := Tryz.sizeOf300
  v85 := Tryz.zeroValue300
  t127 := Tryz.underlying102
  a127 := Tryz.isAgg102
  z127 := Tryz.sizeOf102
  v127 := Tryz.zeroValue102
  t143 := Tryz.underlying342
  a143 := Tryz.isAgg342
  z143 := Tryz.sizeOf342
  v143 := Tryz.zeroValue342
  t145 := Tryz.underlying344
  a145 := Tryz.isAgg344
  z145 := Tryz.sizeOf344
  v145 := Tryz.zeroValue344
  t167 := Tryz.underlying299
  a167 := Tryz.isAgg299
  z167 := Tryz.sizeOf299
  v167 := Tryz.zeroValue299
  t168 := Tryz.underlying302
  a168 := Tryz.isAgg302
  z168 := Tryz.sizeOf302
  v168 := Tryz.zeroValue302
  t171 := Tryz.underlying236
  a171 := Tryz.isAgg236
  z171 := Tryz.sizeOf236
  v171 := Tryz.zeroValue236
  t173 := Tryz.underlying240
  a173 := Tryz.isAgg240
  z173 := Tryz.sizeOf240
  v173 := Tryz.zeroValue240
  t175 := Tryz.underlying325
  a175 := Tryz.isAgg325
  z175 := Tryz.sizeOf325
  v175 := Tryz.zeroValue325
  t210 := Tryz.underlying328
  a210 := Tryz.isAgg328
  z210 := Tryz.sizeOf328
  v210 := Tryz.zeroValue328
  t212 := Tryz.underlying264
  a212 := Tryz.isAgg264
  z212 := Tryz.sizeOf264
  v212 := Tryz.zeroValue264
  t213 := Tryz.underlying266
  a213 := Tryz.isAgg266
  z213 := Tryz.sizeOf266
  t232 := Tryz.underlying323
  a232 := Tryz.isAgg323
  z232 := Tryz.sizeOf323
  v232 := Tryz.zeroValue323
  t233 := Tryz.underlying324
  a233 := Tryz.isAgg324
  z233 := Tryz.sizeOf324
  v233 := Tryz.zeroValue324
  g15 := by kernel_rfl
  g16 := by kernel_rfl
  g17 := by kernel_rfl
  g18 := by kernel_rfl
  g19 := by kernel_rfl
  t80 := Tryz.underlying69
  a80 := Tryz.isAgg69
  z80 := Tryz.sizeOf69
  v80 := Tryz.zeroValue69
  i0 := by kernel_rfl
  i2 := by kernel_rfl
  i3 := by kernel_rfl
  i4 := by kernel_rfl
  i5 := by kernel_rfl
  i9 := by kernel_rfl
  i20 := by kernel_rfl
  i21 := by kernel_rfl
  i37 := by kernel_rfl
  i46 := by kernel_rfl
  i51 := by kernel_rfl
  i53 := by kernel_rfl
  i75 := by kernel_rfl
  i76 := by kernel_rfl
  i80 := by kernel_rfl
  i85 := by kernel_rfl
  i127 := by kernel_rfl
  i143 := by kernel_rfl
  i145 := by kernel_rfl
  i167 := by kernel_rfl
  i168 := by kernel_rfl
  i171 := by kernel_rfl
  i173 := by kernel_rfl
  i175 := by kernel_rfl
  i210 := by kernel_rfl
  i212 := by kernel_rfl
  i232 := by kernel_rfl
  i233 := by kernel_rfl
  m15 := by kernel_rfl
  m16 := by kernel_rfl
  m17 := by kernel_rfl
  m18 := by kernel_rfl
  m19 := by kernel_rfl
  c0 := by kernel_rfl
  c2 := by kernel_rfl
  c3 := by kernel_rfl
  c4 := by kernel_rfl
  c5 := by kernel_rfl
  c9 := by kernel_rfl
  c20 := by kernel_rfl
  c21 := by kernel_rfl
  c37 := by kernel_rfl
  c46 := by kernel_rfl
  c51 := by kernel_rfl
  c53 := by kernel_rfl
  c75 := by kernel_rfl
  c76 := by kernel_rfl
  c80 := by kernel_rfl
  c85 := by kernel_rfl
  c127 := by kernel_rfl
  c143 := by kernel_rfl
  c145 := by kernel_rfl
  c167 := by kernel_rfl
  c168 := by kernel_rfl
  c171 := by kernel_rfl
  c173 := by kernel_rfl
  c175 := by kernel_rfl
  c210 := by kernel_rfl
  c212 := by kernel_rfl
  c213 := by kernel_rfl
  c232 := by kernel_rfl
  c233 := by kernel_rfl }
open Go.RowKit in
theorem Tryz.strconv_Atoi_ok (s : ByteArray) (hmax : s.size <= 9223372036854775806) (v : Int) (h : Lib.atoiAll s.data.toList = .ok v) (w : World) :
    Calls Tryz.prog 192 #[.string s] w fun e w' => e = .returned (.tuple #[.int .i64 v, .nilIface]) /\ (w' = w \/ ∃ t, w' = Lib.bytesWorld w 5 t) := Any.strconv_Atoi_ok Tryz.laysC172 s hmax v h w
open Go.RowKit in
theorem Tryz.strconv_Atoi_syntax (s : ByteArray) (hlim : s.size <= 281474976710656) (h : Lib.atoiAll s.data.toList = Lib.NumEnd.syntax) (ev : Value) (w : World) (hv : w.cell? ⟨5, 0, none⟩ = some ev) (hev : ev = .nilIface \/ ∃ te pe, ev = .iface te pe) :
    Calls Tryz.prog 192 #[.string s] w fun e w' => ∃ N, e = .returned (.tuple #[.int .i64 (0), .iface 302 (.pointer (some ⟨N, 0, none⟩))]) /\ w.heap.size <= N /\ w'.heap[N]? = some (.cells #[.string ⟨#[65, 116, 111, 105]⟩, .string s, ev] 328 (0, 0)) /\ Below w.heap.size w w' := Any.strconv_Atoi_syntax Tryz.laysC172 s hlim h ev w hv hev
open Go.RowKit in
theorem Tryz.strconv_Atoi_range (s : ByteArray) (hlim : s.size <= 281474976710656) (h : Lib.atoiAll s.data.toList = .range) (ev : Value) (w : World) (hv : w.cell? ⟨6, 0, none⟩ = some ev) (hev : ev = .nilIface \/ ∃ te pe, ev = .iface te pe) :
    Calls Tryz.prog 192 #[.string s] w fun e w' => ∃ N, e = .returned (.tuple #[.int .i64 (Lib.atoiSat s.data.toList), .iface 302 (.pointer (some ⟨N, 0, none⟩))]) /\ w.heap.size <= N /\ w'.heap[N]? = some (.cells #[.string ⟨#[65, 116, 111, 105]⟩, .string s, ev] 328 (0, 0)) /\ Below w.heap.size w w' := Any.strconv_Atoi_range Tryz.laysC172 s hlim h ev w hv hev
open Go.RowKit Go.Lib in
def Tryz.lays190_ren : Go.Shelf.Ren := ⟨fun | 190 => 249 | 125 => 274 | 258 => 273 | 128 => 297 | 129 => 221 | 302 => 288 | 303 => 289 | 304 => 290 | 305 => 291 | 306 => 292 | 307 => 293 | 308 => 294 | 309 => 295 | 310 => 296 | 333 => 311 | 329 => 312 | 330 => 313 | 334 => 314 | 335 => 315 | 336 => 316 | 344 => 320 | n => n, fun | 31 => 52 | 9 => 9 | 3 => 3 | 46 => 268 | 0 => 0 | 51 => 265 | 53 => 237 | 4 => 4 | 183 => 336 | 182 => 335 | 131 => 321 | 5 => 5 | 218 => 350 | 222 => 205 | 228 => 357 | 229 => 43 | n => n, fun | n => n⟩
theorem Tryz.lays190 : Go.Proofs.Lays.n190 Tryz.prog Tryz.lays190_ren := {
  mixed := by kernel_rfl
  f125 := Tryz.func274.trans (congrArg some (by kernel_rfl))
  f128 := Tryz.func297.trans (congrArg some (by kernel_rfl))
  f129 := Tryz.func221.trans (congrArg some (by kernel_rfl))
  f190 := Tryz.func249.trans (congrArg some (by kernel_rfl))
  f258 := Tryz.func273.trans (congrArg some (by kernel_rfl))
  f302 := Tryz.func288.trans (congrArg some (by kernel_rfl))
  f303 := Tryz.func289.trans (congrArg some (by kernel_rfl))
  f304 := Tryz.func290.trans (congrArg some (by kernel_rfl))
  f305 := Tryz.func291.trans (congrArg some (by kernel_rfl))
  f306 := Tryz.func292.trans (congrArg some (by kernel_rfl))
  f307 := Tryz.func293.trans (congrArg some (by kernel_rfl))
  f308 := Tryz.func294.trans (congrArg some (by kernel_rfl))
  f309 := Tryz.func295.trans (congrArg some (by kernel_rfl))
  f310 := Tryz.func296.trans (congrArg some (by kernel_rfl))
  f329 := Tryz.func312.trans (congrArg some (by kernel_rfl))
  f330 := Tryz.func313.trans (congrArg some (by kernel_rfl))
  f333 := Tryz.func311.trans (congrArg some (by kernel_rfl))
  f334 := Tryz.func314.trans (congrArg some (by kernel_rfl))
  f335 := Tryz.func315.trans (congrArg some (by kernel_rfl))
  f336 := Tryz.func316.trans (congrArg some (by kernel_rfl))
  f344 := Tryz.func320.trans (congrArg some (by kernel_rfl))
  t0 := Tryz.underlying0
  a0 := Tryz.isAgg0
  z0 := Tryz.sizeOf0
  v0 := Tryz.zeroValue0
  t3 := Tryz.underlying3
  a3 := Tryz.isAgg3
  z3 := Tryz.sizeOf3
  v3 := Tryz.zeroValue3
  t4 := Tryz.underlying4
  a4 := Tryz.isAgg4
  z4 := Tryz.sizeOf4
  v4 := Tryz.zeroValue4
  t5 := Tryz.underlying5
  a5 := Tryz.isAgg5
  z5 := Tryz.sizeOf5
  v5 := Tryz.zeroValue5
  t9 := Tryz.underlying9
  a9 := Tryz.isAgg9
  z9 := Tryz.sizeOf9
  v9 := Tryz.zeroValue9
  t31 := Tryz.underlying52
  a31 := Tryz.isAgg52
  z31 := Tryz.sizeOf52
  v31 := Tryz.zeroValue52
  t46 := Tryz.underlying268
  a46 := Tryz.isAgg268
  z46 := Tryz.sizeOf268
  v46 := Tryz.zeroValue268
  t51 := Tryz.underlying265
  a51 := Tryz.isAgg265
  z51 := Tryz.sizeOf265
  v51 := Tryz.zeroValue265
  t53 := Tryz.underlying237
  a53 := Tryz.isAgg237
  z53 := Tryz.sizeOf237
  v53 := Tryz.zeroValue237
  t131 := Tryz.underlying321
  a131 := Tryz.isAgg321
  z131 := Tryz.sizeOf321
  v131 := Tryz.zeroValue321
  t182 := Tryz.underlying335
  a182 := Tryz.isAgg335
  z182 := Tryz.sizeOf335
  v182 := Tryz.zeroValue335
  t183 := Tryz.underlying336
  a183 := Tryz.isAgg336
  z183 := Tryz.sizeOf336
  v183 := Tryz.zeroValue336
  t218 := Tryz.underlying350
  a218 := Tryz.isAgg350
  z218 := Tryz.sizeOf350
  v218 := Tryz.zeroValue350
  t222 := Tryz.underlying205
  a222 := Tryz.isAgg205
  z222 := Tryz.sizeOf205
  v222 := Tryz.zeroValue205
  t228 := Tryz.underlying357
  a228 := Tryz.isAgg357
  z228 := Tryz.sizeOf357
  v228 := Tryz.zeroValue357
  t229 := Tryz.underlying43
  a229 := Tryz.isAgg43
  z229 := Tryz.sizeOf43
  v229 := Tryz.zeroValue43 }
open Go.Sort Go.RowKit in
theorem Tryz.slices_Sort_string (blk off cap : Nat) (ss : List (List UInt8)) (w : World) (hH : Holds encStr w blk off ss.toArray) (hblk : blk < w.heap.size) (hsz : ss.length < 4611686018427387904) :
    Calls Tryz.prog 249 #[.slice (some ⟨blk, off, none⟩) ss.length cap] w fun e w' =>
      e = .returned (.tuple #[]) /\ ∃ n os, w' = grow (putRow encStr (Sort.ahead w n) blk off (ss.mergeSort fun x y => decide (x <= y)).toArray) os := Any.slices_Sort_string Tryz.lays190 blk off cap ss w hH hblk hsz
def Tryz.lays206_ren : Go.Shelf.Ren := ⟨fun | 206 => 230 | n => n, fun | 9 => 9 | 4 => 4 | 3 => 3 | n => n, fun | n => n⟩
open Go.RowKit Go.Lib in
def Tryz.lays99_ren : Go.Shelf.Ren := ⟨fun | 99 => 191 | 206 => 230 | n => n, fun | 9 => 9 | 4 => 4 | 3 => 3 | n => n, fun | n => n⟩
theorem Tryz.lays99 : Go.Proofs.Lays.n99 Tryz.prog Tryz.lays99_ren := {
  mixed := by kernel_rfl
  f99 := Tryz.func191.trans (congrArg some (by kernel_rfl))
  f206 := Tryz.func230.trans (congrArg some (by kernel_rfl))
  t3 := Tryz.underlying3
  a3 := Tryz.isAgg3
  z3 := Tryz.sizeOf3
  v3 := Tryz.zeroValue3
  t4 := Tryz.underlying4
  a4 := Tryz.isAgg4
  z4 := Tryz.sizeOf4
  v4 := Tryz.zeroValue4
  t9 := Tryz.underlying9
  a9 := Tryz.isAgg9
  z9 := Tryz.sizeOf9
  v9 := Tryz.zeroValue9 }
open Go.RowKit Go.Lib in
theorem Tryz.strings_HasPrefix (s p : ByteArray) (w : World) :
    Calls Tryz.prog 191 #[.string s, .string p] w fun e w' => e = .returned (.bool (Lib.hasPrefix s.data.toList p.data.toList)) /\ w' = w := Any.strings_HasPrefix Tryz.lays99 s p w
open Go.Lib in
def Tryz.lays110_ren : Go.Shelf.Ren := ⟨fun | 110 => 207 | 109 => 250 | n => n, fun | 31 => 52 | 9 => 9 | 4 => 4 | 3 => 3 | 0 => 0 | n => n, fun | n => n⟩
theorem Tryz.lays110 : Go.Proofs.Lays.n110 Tryz.prog Tryz.lays110_ren := {
  mixed := by kernel_rfl
  f109 := Tryz.func250.trans (congrArg some (by kernel_rfl))
  f110 := Tryz.func207.trans (congrArg some (by kernel_rfl))
  t0 := Tryz.underlying0
  a0 := Tryz.isAgg0
  z0 := Tryz.sizeOf0
  v0 := Tryz.zeroValue0
  t3 := Tryz.underlying3
  a3 := Tryz.isAgg3
  z3 := Tryz.sizeOf3
  v3 := Tryz.zeroValue3
  t4 := Tryz.underlying4
  a4 := Tryz.isAgg4
  z4 := Tryz.sizeOf4
  v4 := Tryz.zeroValue4
  t9 := Tryz.underlying9
  a9 := Tryz.isAgg9
  z9 := Tryz.sizeOf9
  v9 := Tryz.zeroValue9
  t31 := Tryz.underlying52
  a31 := Tryz.isAgg52
  z31 := Tryz.sizeOf52
  v31 := Tryz.zeroValue52 }
open Go.Lib in
theorem Tryz.slices_Contains_string (b off n c : Nat) (zs : List ByteArray) (x : ByteArray) (w : World) (hz : n <= zs.length) (hbig : n <= 9223372036854775807) (hc : ∀ j, j < zs.length -> w.cell? ⟨b, off + j, none⟩ = some (.string (zs.getD j ByteArray.empty))) :
    Calls Tryz.prog 207 #[.slice (some ⟨b, off, none⟩) n c, .string x] w fun e w' => e = .returned (.bool (Lib.containsS (zs.take n) x)) /\ w' = w := Any.slices_Contains_string Tryz.lays110 b off n c zs x w hz hbig hc
open Go.Lib in
theorem Tryz.slices_Contains_string_empty (a : Option Addr) (c : Nat) (x : ByteArray) (w : World) :
    Calls Tryz.prog 207 #[.slice a 0 c, .string x] w fun e w' => e = .returned (.bool false) /\ w' = w := Any.slices_Contains_string_empty Tryz.lays110 a c x w
open Go.RowKit Go.Sort in
theorem Tryz.slices_Sort_string_none (p : Option Addr) (cap : Nat) (w : World) :
    Calls Tryz.prog 249 #[.slice p 0 cap] w fun e w' => e = .returned (.tuple #[]) /\ w' = w := Any.slices_Sort_string_none Tryz.lays190 p cap w
end Go.Proofs
namespace Go.Proofs.YteecgiebimdbhaaGreatDoor
open Go.RowKit
open Go.Sort
open M
theorem clone_own (s : ByteArray) (w : World) (hs : s.size <= 281474976710656) : Calls Tryz.prog 104 #[.string s] w fun e w' => e = .returned (.string s) /\ Below w.heap.size w w' := by
  go_enter Tryz.func104, Tryz.ntmps104
  go_wp2_with fail
  refine (Tryz.stringslite_Clone _ _ hs).mono ?_; rintro e w1 ⟨rfl, hb1⟩
  go_wp2
  go_ret;exact ⟨rfl, hb1⟩
structure AsksOk (f : Nat) (p : Int -> ByteArray -> Bool) : Prop where
  says : ∀ (k y : Int) (s : ByteArray) (w : World), s.size <= 9223372036854775807 -> Calls Tryz.prog f #[tokV k y s] w fun e w' => e = .returned (.bool (p k s)) /\ Below w.heap.size w w'
  enters : ∀ args w, (callFunc f args).run Tryz.prog w = .ok (.enter f args) w
theorem asksSmall : AsksOk 110 smallK := ⟨fun k y s w h => isSmall_any k y s w h, enters_of Tryz.func110 (by kernel_rfl) rfl⟩
theorem asksGreat : AsksOk 112 greatK := ⟨fun k y s w h => isGreat_any k y s w h, enters_of Tryz.func112 (by kernel_rfl) rfl⟩
def NameOut (S : Toks) (ok : Bool) (i b : Nat) (s : ByteArray) (i' b' : Nat) : Prop :=
  (b = 0 /\ ok = true /\ s = S.T i /\ i' = i + 1 /\ b' = 0) \/ (b = 0 /\ ok = false /\ i' = i /\ b' = 2) \/ (b ≠ 0 /\ i' = i /\ b' = b)
theorem cword_any {W : World} {q : Nat} {A : Option Addr} {S : Toks} {cn i b : Nat} {w : World} (hc : CdCtx W q A S w) (h : CSt q A S.n cn i b w) (f : Nat) (p : Int -> ByteArray -> Bool) (hf : AsksOk f p) (hp0 : p 0 ⟨#[]⟩ = false) :
    Calls Tryz.prog 109 #[.pointer (some ⟨q, 0, none⟩), .func (.func f) #[] #[]] w fun e w' => ∃ s i' b', e = .returned (.string s) /\ s.size <= 281474976710656 /\ CSt q A S.n cn i' b' w' /\ Kp q w w' /\ NameOut S (decide (i < S.n) && p (S.K i) (S.T i)) i b s i' b' := by
  have hbig := hc.big;have hr := h.lt;have NX := hZ (next_any hc h);have HH := hZ h;have hts := tAt_size hc b i
  have hpk : b = 0 -> p (kAt S b i) (tAt S b i) = (decide (i < S.n) && p (S.K i) (S.T i)) := fun hb => by
    unfold kAt tAt
    by_cases hlt : i < S.n
    · rw [if_pos ⟨hb, hlt⟩, if_pos ⟨hb, hlt⟩]; simp [hlt]
    · rw [if_neg (fun x => hlt x.2), if_neg (fun x => hlt x.2), hp0]; simp [hlt]
  have hpt : b = 0 -> i < S.n -> tAt S b i = S.T i := fun hb hlt => if_pos ⟨hb, hlt⟩
  have HPK := hZ hpk;have HPT := hZ hpt;clear h hc hpk hpt;go_enter Tryz.func109, Tryz.ntmps109
  go_wp2_with fail
  refine NX.out.mono ?_; rintro e w1 ⟨y, rfl, hb1⟩
  generalize hk : kAt S b i = k at HPK ⊢
  generalize ht : tAt S b i = t at HPK HPT hts ⊢
  clear hk ht;unfold tokV
  obtain ⟨w2, hw2⟩ : ∃ w2, w2 = w1.alloc (.cells #[.int .i64 k, .int .i64 y, .string t] 119) := ⟨_, rfl⟩;have B2 : Below w1.heap.size w1 w2 := by rw [hw2]; exact below_new (Below.refl _ _) _
  have T2 : TokBox w1.heap.size k y t w2 := by rw [hw2]; exact heap_alloc_new w1 _
  have B02 := below_over hb1 B2;have t0 : w2.cell? ⟨w1.heap.size, 0, none⟩ = some (.int .i64 k) := cZ T2 0;have t1 : w2.cell? ⟨w1.heap.size, 1, none⟩ = some (.int .i64 y) := cZ T2 1;have t2 : w2.cell? ⟨w1.heap.size, 2, none⟩ = some (.string t) := cZ T2 2;have AF := hZ (hf.says k y t w2 (by omega));have eg := hf.enters;have HT2 := hZ T2;have HB02 := hZ B02;have HW2 := hZ hw2;have hs1 := hb1.size;clear hw2 B2 T2 B02 hb1 NX hf;go_upto_region 2 with fail
  rw [<- HW2.out];unfold tokV at AF
  go_wp2_with fail
  refine AF.out.mono ?_; rintro e w3 ⟨rfl, hb3⟩
  have B03 := below_over HB02.out hb3;have h3 := HH.out.below B03;obtain ⟨v, hv⟩ : ∃ v, p k t = v := ⟨_, rfl⟩;rw [hv];have MU := hZ (must_any h3 v 2 (by decide));have HT3 := hZ (HT2.out.on hb3);have HK3 := hZ (Kp.of_below (r := q) B03);have hl3 : w1.heap.size < w3.heap.size := (Array.getElem?_eq_some_iff.1 HT3.out).1;have HQ := hZ hv;clear hb3 B03 h3 hv t0 t1 t2 AF eg;go_wp2_with fail
  refine MU.out.mono ?_; rintro e w4 ⟨rfl, h4, k4⟩
  have hlt : mustB b v 2 = 0 -> i < S.n := fun e => by
    by_cases hb : b = 0
    · subst hb
      cases v with
      | false => cases e
      | true =>
        have := HPK.out rfl
        rw [HQ.out] at this
        have h2 : decide (i < S.n) = true := by
          cases hd : decide (i < S.n) with
          | true => rfl
          | false => rw [hd] at this; cases this
        simpa using h2
    · rw [mustB_bad _ _ hb] at e; exact absurd e hb
  have PS := hZ (cpass_any h4 hlt hbig);have ht5 : w1.heap.size ≠ q := by omega
  have T4 : Hid (TokBox w1.heap.size k y t w4) := hZ ((k4.blk hl3 ht5).trans HT3.out);have HK4 := hZ (HK3.out.trans k4);have hl4 := Nat.lt_of_lt_of_le hl3 k4.size;have CL := hZ (fun w => clone_own t w hts)
  have OUT : Hid (NameOut S (decide (i < S.n) && p (S.K i) (S.T i)) i b t (upI (mustB b v 2) i) (mustB b v 2)) := hZ (by
    by_cases hb : b = 0
    · subst hb
      have e := HPK.out rfl;rw [HQ.out] at e;rw [<- e];cases v with
      | true =>
        have hl : i < S.n := hlt rfl;exact .inl ⟨rfl, rfl, HPT.out rfl hl, rfl, rfl⟩
      | false => exact .inr (.inl ⟨rfl, rfl, rfl, rfl⟩)
    · rw [mustB_bad _ _ hb, upI_ne _ hb]
      exact .inr (.inr ⟨hb, rfl, rfl⟩))
  clear h4 k4 HT2 HT3 HB02 HW2 MU HPK HPT hlt HH HK3;go_wp2_with fail
  refine PS.out.mono ?_; rintro e w5 ⟨rfl, h5, k5⟩
  have T5 : TokBox w1.heap.size k y t w5 := (k5.blk hl4 ht5).trans T4.out;have t2 : w5.cell? ⟨w1.heap.size, 2, none⟩ = some (.string t) := cZ T5 2;have H5 := hZ h5;have HK5 := hZ (HK4.out.trans k5);clear h5 k5 T5 T4 PS HK4;go_wp2_with fail
  refine (CL.out _).mono ?_; rintro e w6 ⟨rfl, hb6⟩
  have H6' := hZ (H5.out.below hb6)
  have K6 := hZ (HK5.out.trans (Kp.of_below hb6));clear hb6 H5 HK5;go_wp2_with fail
  go_ret;exact ⟨t, _, _, rfl, hts, H6'.out, K6.out, OUT.out⟩
structure CEnv (w : World) : Prop where
 pow : Lib.TabIs Tryz.prog w "internal/strconv.uint64pow10" .u64 Lib.pow10Tab
 syn : ∃ te pe, w.cell? ⟨5, 0, none⟩ = some (.iface te pe)
 rng : ∃ te pe, w.cell? ⟨6, 0, none⟩ = some (.iface te pe)
theorem CEnv.on {w w' : World} (h : CEnv w) (hb : Below w.heap.size w w') : CEnv w' := by
 refine ⟨Lib.tabBelow_of_tabIs h.pow w' hb, ?_, ?_⟩
 ·obtain ⟨te, pe, e⟩ := h.syn
  exact ⟨te, pe, (hb.cell (p := ⟨5, 0, none⟩) (World.block_lt_of_cell? _ _ e)).trans e⟩
 ·obtain ⟨te, pe, e⟩ := h.rng
  exact ⟨te, pe, (hb.cell (p := ⟨6, 0, none⟩) (World.block_lt_of_cell? _ _ e)).trans e⟩
theorem atoi_own (s : ByteArray) (w : World) (hs : s.size <= 281474976710656) (he : CEnv w) : Calls Tryz.prog 192 #[.string s] w fun e w' => ∃ (v : Int) (ev : Value), e = .returned (.tuple #[.int .i64 v, ev]) /\ Below w.heap.size w w' /\
  ((ev = .nilIface /\ Lib.atoiAll s.data.toList = .ok v) \/ ((∃ te pe, ev = .iface te (.pointer (some pe))) /\ ∀ u, Lib.atoiAll s.data.toList ≠ .ok u)) := by
 match h : Lib.atoiAll s.data.toList with
 | Lib.NumEnd.ok v =>
  refine (Tryz.strconv_Atoi_ok s (by omega) v h w).mono ?_;rintro e w' ⟨rfl, hw⟩;refine ⟨v, .nilIface, rfl, ?_, .inl ⟨rfl, rfl⟩⟩;rcases hw with rfl | ⟨t, rfl⟩
  ·exact Below.refl _ _
  ·exact Lib.bytesWorld_below w _ t
 | Lib.NumEnd.syntax =>
  obtain ⟨te, pe, hv⟩ := he.syn;refine (Tryz.strconv_Atoi_syntax s hs h _ w hv (.inr ⟨te, pe, rfl⟩)).mono ?_;rintro e w' ⟨N, rfl, -, -, hb⟩;exact ⟨_, _, rfl, hb, .inr ⟨⟨_, _, rfl⟩, fun u => by simp⟩⟩
 | Lib.NumEnd.range =>
  obtain ⟨te, pe, hv⟩ := he.rng;refine (Tryz.strconv_Atoi_range s hs h _ w hv (.inr ⟨te, pe, rfl⟩)).mono ?_;rintro e w' ⟨N, rfl, -, -, hb⟩;exact ⟨_, _, rfl, hb, .inr ⟨⟨_, _, rfl⟩, fun u => by simp⟩⟩
theorem itoa_own (n : Int) (w : World) (h0 : -9223372036854775808 <= n) (h1 : n <= 9223372036854775807) (he : CEnv w) :
  Calls Tryz.prog 51 #[.int .i64 n] w fun e w' => e = .returned (.string ⟨(Lib.itoa n).toArray⟩) /\ Below w.heap.size w w' :=
 (Tryz.strconv_Itoa n h0 h1 w he.pow).mono fun e w' ⟨he, k, os, hw⟩ => by
  subst hw;exact ⟨he, ⟨rfl, rfl, rfl, Lib.size_grow _ _ _, fun j hj => Lib.heap_grow_old w k os j hj⟩⟩
def NumOut (S : Toks) (i b : Nat) (v : Int) (i' b' : Nat) : Prop :=
 (b = 0 /\ S.major i = true /\ v = digs (S.T i).data.toList 0 /\ i' = i + 1 /\ b' = 0) \/ (b = 0 /\ S.major i = false /\ i' = i /\ b' = 2) \/ (b ≠ 0 /\ i' = i /\ b' = b)
theorem whole_eq {S : Toks} {b i : Nat} {v : Int} (hb : b = 0) (hk : (kAt S b i == 3) = true) (ha : Lib.atoiAll (tAt S b i).data.toList = .ok v) :
  (((Lib.itoa v).toArray.toList == (tAt S b i).data.toList) && (decide (1 <= v) && decide (v <= 999999999))) = S.major i /\ (S.major i = true -> v = digs (S.T i).data.toList 0) := by
 have hk3 : kAt S b i = 3 := by simpa using hk
 have hlt : i < S.n := by
  by_cases h : i < S.n
  ·exact h
  ·unfold kAt at hk3; rw [if_neg (fun x => h x.2)] at hk3; cases hk3
 have e1 : kAt S b i = S.K i := if_pos ⟨hb, hlt⟩
 have e2 : tAt S b i = S.T i := if_pos ⟨hb, hlt⟩
 rw [e2] at ha ⊢
 rw [e1] at hk3
 have hm : S.major i = majorOk (S.T i).data.toList := by unfold Toks.major; simp [hlt, hk3]
 rw [hm]
 cases hq : majorOk (S.T i).data.toList with
 | true =>
  obtain ⟨a1, a2, a3, a4⟩ := num_yes hq;rw [a1] at ha;have hv : digs (S.T i).data.toList 0 = v := by simpa using ha
  refine ⟨?_, fun _ => hv.symm⟩;rw [<- hv];unfold Lib.itoa
  rw [if_neg (by omega)];simp [a4, a2, a3]
 | false =>
  refine ⟨?_, fun h => by cases h⟩;rw [Bool.eq_false_iff];intro h;simp only [Bool.and_eq_true, decide_eq_true_eq, beq_iff_eq] at h;obtain ⟨h1, h2, h3⟩ := h
  have : Lib.decDigits v.toNat = (S.T i).data.toList := by
   rw [<- h1]; unfold Lib.itoa; rw [if_neg (by omega)]
  rw [(num_of h2 h3 this).1] at hq;cases hq
def NumQ (S : Toks) (i b : Nat) (v : Int) (q : Bool) : Prop := b = 0 -> (q && (decide (1 <= v) && decide (v <= 999999999))) = S.major i /\ (S.major i = true -> v = digs (S.T i).data.toList 0)
theorem NumQ.no {S : Toks} {i b : Nat} {v : Int} (h : b = 0 -> S.major i = false) : NumQ S i b v false := fun hb => ⟨(h hb).symm, fun e => by rw [h hb] at e; cases e⟩
theorem NumQ.out {S : Toks} {i b : Nat} {v : Int} {q p : Bool} (h : NumQ S i b v q) (hp : (q && (decide (1 <= v) && decide (v <= 999999999))) = p) : NumOut S i b v (upI (mustB b p 2) i) (mustB b p 2) := by
 by_cases hb : b = 0
 ·subst hb
  obtain ⟨h1, h2⟩ := h rfl;rw [hp] at h1;cases p with
  | true => exact .inl ⟨rfl, h1.symm, h2 h1.symm, rfl, rfl⟩
  | false => exact .inr (.inl ⟨rfl, h1.symm, rfl, rfl⟩)
 ·rw [mustB_bad _ _ hb, upI_ne _ hb]
  exact .inr (.inr ⟨hb, rfl, rfl⟩)
theorem major_k {S : Toks} {i b : Nat} (hb : b = 0) (hk : (kAt S b i == 3) = false) : S.major i = false := by
 cases h : S.major i with
 | false => rfl
 | true =>
  unfold Toks.major at h
  simp only [Bool.and_eq_true, decide_eq_true_eq, beq_iff_eq] at h;have : kAt S b i = S.K i := if_pos ⟨hb, by simp_all⟩
  rw [this] at hk;simp_all
theorem major_e {S : Toks} {i b : Nat} (hb : b = 0) (ha : ∀ u, Lib.atoiAll (tAt S b i).data.toList ≠ .ok u) : S.major i = false := by
 cases h : S.major i with
 | false => rfl
 | true =>
  unfold Toks.major at h
  simp only [Bool.and_eq_true, decide_eq_true_eq, beq_iff_eq] at h;have e : tAt S b i = S.T i := if_pos ⟨hb, by simp_all⟩;rw [e] at ha;have hm : majorOk (S.T i).data.toList = true := by simp_all
  exact absurd (num_yes hm).1 (ha _)
theorem major_lt {S : Toks} {i : Nat} (h : S.major i = true) : i < S.n := by
 unfold Toks.major at h
 simp only [Bool.and_eq_true, decide_eq_true_eq, beq_iff_eq] at h
 simp_all
theorem cmajor_any {W : World} {q : Nat} {A : Option Addr} {S : Toks} {cn i b : Nat} {w : World} (hc : CdCtx W q A S w) (h : CSt q A S.n cn i b w) (he : CEnv W) :
  Calls Tryz.prog 151 #[.pointer (some ⟨q, 0, none⟩), .int .i64 1] w fun e w' => ∃ v i' b', e = .returned (.int .i64 v) /\ CSt q A S.n cn i' b' w' /\ Kp q w w' /\ NumOut S i b v i' b' := by
 have hbig := hc.big
 have hr := h.lt
 have NX := hZ (next_any hc h)
 have HH := hZ h
 have hts := tAt_size hc b i
 have hkw : W.heap.size <= w.heap.size := hc.below.size
 have HE := hZ (he.on hc.below)
 have HWE := hZ (fun hb v => whole_eq (S := S) (b := b) (i := i) (v := v) hb)
 have NMK := hZ (fun hb hk => major_k (S := S) (i := i) (b := b) hb hk)
 have NME := hZ (fun hb hk => major_e (S := S) (i := i) (b := b) hb hk)
 clear h hc he
 go_enter Tryz.func151, Tryz.ntmps151
 go_wp2_with fail
 refine NX.out.mono ?_; rintro e w1 ⟨y, rfl, hb1⟩
 generalize hk : kAt S b i = k at HWE NMK ⊢
 generalize ht : tAt S b i = t at HWE NME hts ⊢
 clear hk ht
 unfold tokV
 obtain ⟨w2, hw2⟩ : ∃ w2, w2 = w1.alloc (.cells #[.int .i64 k, .int .i64 y, .string t] 119) := ⟨_, rfl⟩
 have B2 : Below w1.heap.size w1 w2 := by rw [hw2]; exact below_new (Below.refl _ _) _
 have T2 : TokBox w1.heap.size k y t w2 := by rw [hw2]; exact heap_alloc_new w1 _
 have B02 := below_over hb1 B2
 have t0 : w2.cell? ⟨w1.heap.size, 0, none⟩ = some (.int .i64 k) := cZ T2 0
 have t1 : w2.cell? ⟨w1.heap.size, 1, none⟩ = some (.int .i64 y) := cZ T2 1
 have t2 : w2.cell? ⟨w1.heap.size, 2, none⟩ = some (.string t) := cZ T2 2
 have HT2 := hZ T2
 have HB02 := hZ B02
 have HW2 := hZ hw2
 have hs1 := hb1.size
 have AT := hZ (atoi_own t w2 hts (HE.out.on B02))
 clear hw2 B2 T2 B02 hb1 NX
 go_upto_region 2 with fail
 rw [<- HW2.out]
 go_wp2_with fail
 refine AT.out.mono ?_; rintro e w3 ⟨v, ev, rfl, hb3, hev⟩
 have B03 := below_over HB02.out hb3
 have T3 := HT2.out.on hb3
 have t0 : w3.cell? ⟨w1.heap.size, 0, none⟩ = some (.int .i64 k) := cZ T3 0
 have t1 : w3.cell? ⟨w1.heap.size, 1, none⟩ = some (.int .i64 y) := cZ T3 1
 have t2 : w3.cell? ⟨w1.heap.size, 2, none⟩ = some (.string t) := cZ T3 2
 have HB03 := hZ B03
 have HE3 := hZ (HE.out.on B03)
 have HEV := hZ hev
 clear hev T3 B03 hb3 AT HW2 HT2 HB02
 go_upto_region 3 with fail
 go_cut [8] (fun s6 wx => ∃ u, s6 = .bool u /\ Below w3.heap.size w3 wx /\ NumQ S i b v u)
 case first =>
  rcases hid_or (k == 3) with a3 | a3
  ·have b3 := a3.out
   have Q := hZ (NumQ.no (v := v) fun hb => NMK.out hb b3);clear HEV;go_quiet (fail)
   go_wp2_with fail
   go_meet
   exact ⟨_, rfl, below_drewN (Below.refl _ _) _, Q.out⟩
  have b3 := a3.out;rcases HEV.out with ⟨rfl, hok⟩ | ⟨⟨te, pe, rfl⟩, hno⟩
  rotate_left
  ·have Q := hZ (NumQ.no (v := v) fun hb => NME.out hb hno)
   clear HEV hno;go_quiet (fail)
   go_wp2_with fail
   go_meet
   exact ⟨_, rfl, below_drewN (Below.refl _ _) _, Q.out⟩
  have hbd := Lib.atoiAll_bounds hok;have E1 : t.toList = t.data.toList := Lib.toList_data t;have E2 : (⟨(Lib.itoa v).toArray⟩ : ByteArray).toList = Lib.itoa v := Lib.toList_data _
  have Q : Hid (NumQ S i b v (Lib.itoa v == t.toList)) := hZ fun hb => by
   rw [E1];exact HWE.out hb v b3 hok
  have cI : ∀ dd os, Calls Tryz.prog 51 #[.int .i64 v] (Sort.grow (redrawn w3 dd) os) fun e w'' => e = .returned (.string ⟨(Lib.itoa v).toArray⟩) /\ ∃ pp : Regrown, w'' = Sort.grow (redrawn w3 pp.d) pp.os := fun dd os => Calls.regrown_of (itoa_own v _ hbd.1 hbd.2 (HE3.out.on (below_regrown w3 dd os)))
  have p0 := cell_regrown t0; have p2 := cell_regrown t2
  clear t0 t1 t2 hbd E1 E2 hok HEV HE HE3 HWE;refine wp_region_quiet_below (by kernel_rfl) (by kernel_rfl) ?_;repeat (any_goals (first | go_big_quiet_step (with_reducible exact cI _ _) | quiet_step (with_reducible exact cI _ _)))
  refine wpQuiet_nil ?_;intro _ hw';obtain ⟨⟨dq, osq⟩, hw''⟩ := hw';subst hw'';have hb4 := below_regrown w3 dq osq;go_wp2_with fail
  go_meet
  exact ⟨_, rfl, hb4, Q.out⟩
 case rest =>
  obtain ⟨u, rfl, hb4, hq⟩ := hcut;have B04 := below_over HB03.out hb4;have h4 := HH.out.below B04;have HK4 := hZ (Kp.of_below (r := q) B04);have MU := hZ (fun p => must_any h4 p 2 (by decide));have HQ := hZ hq
  have UP : Hid (∀ p w5, (u && (decide (1 <= v) && decide (v <= 999999999))) = p -> CSt q A S.n cn i (mustB b p 2) w5 -> Calls Tryz.prog 107 #[.pointer (some ⟨q, 0, none⟩)] w5 fun e w' => e = .returned (.tuple #[]) /\ CSt q A S.n cn (upI (mustB b p 2) i) (mustB b p 2) w' /\ Kp q w5 w') := hZ fun p w5 hp h5 => cpass_any h5 (fun e => by
   by_cases hb : b = 0
   ·subst hb
    have := (HQ.out rfl).1
    rw [hp] at this;cases p with
    | true => exact major_lt this.symm
    | false => cases e
   ·rw [mustB_bad _ _ hb] at e; exact absurd e hb) hbig
  clear hb4 B04 h4 hq HE HE3 HEV HWE NMK NME HB03 HH t0 t1 t2;rcases hid_or u with aq | aq
  ·have := aq.out; subst this
   go_upto_region 4 with fail
   go_wp2_with fail
   refine (MU.out _).mono ?_; rintro e w5 ⟨rfl, h5, k5⟩
   have HP : Hid ((false && (decide (1 <= v) && decide (v <= 999999999))) = false) := hZ (by rfl);have PS := hZ (UP.out false w5 HP.out h5);have O := hZ (HQ.out.out HP.out);have HK5 := hZ (HK4.out.trans k5);clear h5 k5 UP MU HQ HP HK4;go_wp2_with fail
   refine PS.out.mono ?_; rintro e w6 ⟨rfl, h6, k6⟩
   have H6 := hZ h6;have HK6 := hZ (HK5.out.trans k6);clear h6 k6 PS HK5;go_wp2_with fail
   go_ret;exact ⟨v, _, _, rfl, H6.out, HK6.out, O.out⟩
  have := aq.out; subst this
  rcases hid_or (decide (1 <= v)) with a1 | a1
  ·have b1 := a1.out
   go_upto_region 4 with fail
   go_wp2_with fail
   refine (MU.out _).mono ?_; rintro e w5 ⟨rfl, h5, k5⟩
   have HP : Hid ((true && (decide (1 <= v) && decide (v <= 999999999))) = false) := hZ (by rw [b1]; rfl);have PS := hZ (UP.out false w5 HP.out h5);have O := hZ (HQ.out.out HP.out);have HK5 := hZ (HK4.out.trans k5);clear h5 k5 UP MU HQ HP HK4;go_wp2_with fail
   refine PS.out.mono ?_; rintro e w6 ⟨rfl, h6, k6⟩
   have H6 := hZ h6;have HK6 := hZ (HK5.out.trans k6);clear h6 k6 PS HK5;go_wp2_with fail
   go_ret;exact ⟨v, _, _, rfl, H6.out, HK6.out, O.out⟩
  have b1 := a1.out;rcases hid_or (decide (v <= 999999999)) with a2 | a2
  ·have b2 := a2.out
   go_upto_region 4 with fail
   go_wp2_with fail
   refine (MU.out _).mono ?_; rintro e w5 ⟨rfl, h5, k5⟩
   have HP : Hid ((true && (decide (1 <= v) && decide (v <= 999999999))) = false) := hZ (by rw [b1, b2]; rfl);have PS := hZ (UP.out false w5 HP.out h5);have O := hZ (HQ.out.out HP.out);have HK5 := hZ (HK4.out.trans k5);clear h5 k5 UP MU HQ HP HK4;go_wp2_with fail
   refine PS.out.mono ?_; rintro e w6 ⟨rfl, h6, k6⟩
   have H6 := hZ h6;have HK6 := hZ (HK5.out.trans k6);clear h6 k6 PS HK5;go_wp2_with fail
   go_ret;exact ⟨v, _, _, rfl, H6.out, HK6.out, O.out⟩
  have b2 := a2.out;go_upto_region 4 with fail
  go_wp2_with fail
  refine (MU.out _).mono ?_; rintro e w5 ⟨rfl, h5, k5⟩
  have HP : Hid ((true && (decide (1 <= v) && decide (v <= 999999999))) = true) := hZ (by rw [b1, b2]; rfl);have PS := hZ (UP.out true w5 HP.out h5);have O := hZ (HQ.out.out HP.out);have HK5 := hZ (HK4.out.trans k5);clear h5 k5 UP MU HQ HP HK4;go_wp2_with fail
  refine PS.out.mono ?_; rintro e w6 ⟨rfl, h6, k6⟩
  have H6 := hZ h6;have HK6 := hZ (HK5.out.trans k6);clear h6 k6 PS HK5;go_wp2_with fail
  go_ret;exact ⟨v, _, _, rfl, H6.out, HK6.out, O.out⟩
structure KQ (q r : Nat) (w w' : World) : Prop where
  os : w'.os = w.os
  tape : w'.tape = w.tape
  output : w'.output = w.output
  size : w.heap.size <= w'.heap.size
  block : ∀ j, j < w.heap.size -> j ≠ r -> j ≠ q -> w'.heap[j]? = w.heap[j]?
theorem KQ.trans {q r : Nat} {a b c : World} (h : KQ q r a b) (k : KQ q r b c) : KQ q r a c :=
  ⟨k.os.trans h.os, k.tape.trans h.tape, k.output.trans h.output, Nat.le_trans h.size k.size, fun j hj h1 h2 => (k.block j (Nat.lt_of_lt_of_le hj h.size) h1 h2).trans (h.block j hj h1 h2)⟩
theorem KQ.of_below {q r : Nat} {w w' : World} (h : Below w.heap.size w w') : KQ q r w w' := ⟨h.os, h.tape, h.output, h.size, fun j hj _ _ => h.block j hj⟩
theorem KQ.ofKp {q r : Nat} {w w' : World} (h : Kp q w w') : KQ q r w w' := ⟨h.os, h.tape, h.output, h.size, fun j hj _ h2 => h.blk hj h2⟩
theorem KQ.below {q r m : Nat} {w w' : World} (h : KQ q r w w') (hq : m <= q) (hr : m <= r) (hm : m <= w.heap.size) : Below m w w' := ⟨h.os, h.tape, h.output, h.size, fun j hj => h.block j (by omega) (by omega) (by omega)⟩
theorem KQ.put {q r : Nat} {w w' : World} (h : KQ q r w w') (i : Nat) (v : Value) : KQ q r w (w'.setCell ⟨r, i, none⟩ v) :=
  ⟨h.os, h.tape, h.output, by have := h.size; simpa using this, fun j hj h1 h2 => by
    rw [Below.heap_setCell _ _ _ _ (by show j ≠ r; exact h1)];exact h.block j hj h1 h2⟩
theorem KQ.blk {q r : Nat} {a b : World} (h : KQ q r a b) {j : Nat} (hj : j < a.heap.size) (hne : j ≠ r /\ j ≠ q) : b.heap[j]? = a.heap[j]? := h.block j hj hne.1 hne.2
structure RSt (q r : Nat) (A : Option Addr) (n cn i c b : Nat) (w : World) : Prop where
  cur : CSt q A n cn i b w
  box : ∃ y : Int, (b = 0 -> y = c) /\ w.heap[r]? = some (.cells #[.pointer (some ⟨q, 0, none⟩), .int .i64 y] 213 (0, 0))
theorem RSt.qlt {q r : Nat} {A : Option Addr} {n cn i c b : Nat} {w : World} (h : RSt q r A n cn i c b w) : q < w.heap.size := h.cur.lt
theorem RSt.lt {q r : Nat} {A : Option Addr} {n cn i c b : Nat} {w : World} (h : RSt q r A n cn i c b w) : r < w.heap.size := by
  obtain ⟨y, -, h2⟩ := h.box;exact (Array.getElem?_eq_some_iff.1 h2).1
theorem RSt.ne {q r : Nat} {A : Option Addr} {n cn i c b : Nat} {w : World} (h : RSt q r A n cn i c b w) : r ≠ q := by
  obtain ⟨y, -, h2⟩ := h.box;obtain ⟨vs, h1⟩ := h.cur.typ;exact two_types h2 h1 (by decide)
theorem RSt.p {q r : Nat} {A : Option Addr} {n cn i c b : Nat} {w : World} (h : RSt q r A n cn i c b w) : w.cell? ⟨r, 0, none⟩ = some (.pointer (some ⟨q, 0, none⟩)) := by
  obtain ⟨y, -, h2⟩ := h.box;have := cZ h2 0
  simpa using this
theorem RSt.keep {q r : Nat} {A : Option Addr} {n cn i c b : Nat} {w w' : World} (h : RSt q r A n cn i c b w) (e : ∀ k : Nat, (∀ (vs : Array Value) (T : TypeId) (fr : Nat × Nat), w.heap[k]? = some (Obj.cells vs T fr) -> T = 94 \/ T = 114 \/ T = 213) -> k < w.heap.size -> w'.heap[k]? = w.heap[k]?) : RSt q r A n cn i c b w' := by
  obtain ⟨vq, hq⟩ := h.cur.typ;refine ⟨h.cur.keep (e q (fun vs T fr h1 => ?_) h.qlt) (fun g vs fr hg => e g (fun vs' T fr' h1 => ?_) (Array.getElem?_eq_some_iff.1 hg).1), ?_⟩
  · rw [hq] at h1; simp only [Option.some.injEq, Obj.cells.injEq] at h1; exact .inr (.inl h1.2.1.symm)
  · rw [hg] at h1; simp only [Option.some.injEq, Obj.cells.injEq] at h1; exact .inl h1.2.1.symm
  · obtain ⟨y, hy, h2⟩ := h.box
    refine ⟨y, hy, (e r (fun vs T fr h1 => ?_) h.lt).trans h2⟩;rw [h2] at h1; simp only [Option.some.injEq, Obj.cells.injEq] at h1; exact .inr (.inr h1.2.1.symm)
theorem RSt.below {q r : Nat} {A : Option Addr} {n cn i c b : Nat} {w w' : World} (h : RSt q r A n cn i c b w) (hb : Below w.heap.size w w') : RSt q r A n cn i c b w' := h.keep fun k _ hk => hb.block k hk
theorem RSt.other {q r : Nat} {A : Option Addr} {n cn i c b : Nat} {w w' : World} (h : RSt q r A n cn i c b w) {g : Nat} {old : Array Value} {T : TypeId} {fr : Nat × Nat} (hg : w.heap[g]? = some (.cells old T fr)) (hT : T ≠ 94 /\ T ≠ 114 /\ T ≠ 213) (e : ∀ k, k ≠ g -> w'.heap[k]? = w.heap[k]?) : RSt q r A n cn i c b w' :=
  h.keep fun k hk _ => e k fun hkg => by
    subst hkg;rcases hk _ _ _ hg with e | e | e
    · exact hT.1 e
    · exact hT.2.1 e
    · exact hT.2.2 e
theorem RSt.turn {q r : Nat} {A : Option Addr} {n cn i c b i' b' : Nat} {w w' : World} (h : RSt q r A n cn i c b w) (h1 : CSt q A n cn i' b' w') (k : Kp q w w') (hb : b' = 0 -> b = 0) : RSt q r A n cn i' c b' w' := by
  obtain ⟨y, hy, h2⟩ := h.box;exact ⟨h1, y, fun e => hy (hb e), (k.blk h.lt h.ne).trans h2⟩
theorem RSt.more {q r : Nat} {A : Option Addr} {n cn i c b : Nat} {w : World} (h : RSt q r A n cn i c b w) (hc : c <= 500) :
    ∃ x : Int, w.cell? ⟨r, 1, none⟩ = some (.int .i64 x) /\ w.frozen? ⟨r, 1, none⟩ = false /\ (b = 0 -> x = c) /\ RSt q r A n cn i (c + 1) b (w.setCell ⟨r, 1, none⟩ (.int .i64 (wrap64 (x + 1)))) := by
  obtain ⟨y, hy, h2⟩ := h.box;have hne := h.ne;have h3 := Joins.block_setCell (i := 1) h2 (.int .i64 (wrap64 (y + 1)));refine ⟨y, by have := cZ h2 1; simpa using this, Lib.frozen_of_heap h2 1, hy, h.cur.keep (Below.heap_setCell _ _ _ _ (by show q ≠ r; omega)) (fun g vs fr hg => Below.heap_setCell _ _ _ _ (by show g ≠ r; exact two_types hg h2 (by decide))), wrap64 (y + 1), fun e => ?_, by simpa using h3⟩;rw [hy e];unfold wrap64; omega
theorem RSt.any {q r : Nat} {A : Option Addr} {n cn i c b : Nat} {w : World} (h : RSt q r A n cn i c b w) (hb : b ≠ 0) (c' : Nat) : RSt q r A n cn i c' b w := by
  obtain ⟨y, hy, h2⟩ := h.box;exact ⟨h.cur, y, fun e => absurd e hb, h2⟩
structure RCtx (W : World) (q r : Nat) (A : Option Addr) (S : Toks) (w : World) : Prop where
  cur : CdCtx W q A S w
  ler : W.heap.size <= r
theorem RCtx.on {W : World} {q r : Nat} {A : Option Addr} {S : Toks} {w w' : World} (h : RCtx W q r A S w) (hk : KQ q r w w') : RCtx W q r A S w' :=
  ⟨⟨h.cur.toks, h.cur.below.trans (hk.below h.cur.le h.ler h.cur.below.size), h.cur.le, h.cur.big, h.cur.small⟩, h.ler⟩
theorem rnext_any {W : World} {q r : Nat} {A : Option Addr} {S : Toks} {cn i c b : Nat} {w : World} (hc : RCtx W q r A S w) (h : RSt q r A S.n cn i c b w) :
    Calls Tryz.prog 153 #[.pointer (some ⟨q, 0, none⟩)] w fun e w' => ∃ y, e = .returned (tokV (kAt S b i) y (tAt S b i)) /\ Below w.heap.size w w' := next_any hc.cur h.cur
theorem rmust_any {q r : Nat} {A : Option Addr} {n cn i c b : Nat} {w : World} (h : RSt q r A n cn i c b w) (so : Bool) (code : Nat) (hco : code ≠ 0) :
    Calls Tryz.prog 106 #[.pointer (some ⟨q, 0, none⟩), .bool so, .int .i64 code] w fun e w' => e = .returned (.tuple #[]) /\ RSt q r A n cn i c (mustB b so code) w' /\ KQ q r w w' :=
  (must_any h.cur so code hco).mono fun _ _ ⟨he, h1, k1⟩ => ⟨he, h.turn h1 k1 (mustB_0 hco), .ofKp k1⟩
theorem rpass_any {W : World} {q r : Nat} {A : Option Addr} {S : Toks} {cn i c : Nat} {w : World} (hc : RCtx W q r A S w) (h : RSt q r A S.n cn i c 0 w) (hi : i < S.n) :
    Calls Tryz.prog 107 #[.pointer (some ⟨q, 0, none⟩)] w fun e w' => e = .returned (.tuple #[]) /\ RSt q r A S.n cn (i + 1) c 0 w' /\ KQ q r w w' :=
  (cpass_any h.cur (fun _ => hi) hc.cur.big).mono fun _ _ ⟨he, h1, k1⟩ => ⟨he, h.turn h1 k1 id, .ofKp k1⟩
theorem small_k (S : Toks) (i : Nat) : (decide (i < S.n) && smallK (S.K i) (S.T i)) = S.small i := by unfold smallK Toks.small; rw [Bool.and_assoc]
theorem great_k (S : Toks) (i : Nat) : (decide (i < S.n) && greatK (S.K i) (S.T i)) = S.great i := by unfold greatK Toks.great; rw [Bool.and_assoc]
def COut (w : World) (cu r : Nat) (A : Option Addr) (n cn : Nat) (R : Res Ty) (e : Ending) (w' : World) : Prop :=
  ∃ (l : List Value) (t : Ty) (i c b : Nat), e = .returned (.agg l.toArray) /\ TyAt (strike (· < w.heap.size) w') l t /\ KQ cu r w w' /\ RSt cu r A n cn i c b w' /\ c <= 500 /\ badR b i (.ok t i c) = R
theorem COut.seal {w wk : World} {cu r b m : Nat} {A : Option Addr} {n cn i c bd : Nat} {R : Res Ty} {t : Ty} {old : Array Value} {v0 v1 v2 v3 v4 v5 v6 : Value}
    (hb : w.heap.size <= b) (hres : wk.heap[b]? = some (.cells old 55 (0, 0))) (hK : KQ cu r w wk) (hT : TyAt (strike (· < m) wk) [v0, v1, v2, v3, v4, v5, v6] t) (hbm : b < m) (hr : r < w.heap.size) (hC : RSt cu r A n cn i c bd wk) (h5 : c <= 500) (hR : badR bd i (.ok t i c) = R) :
    (∀ i v, ([v0, v1, v2, v3, v4, v5, v6] : List Value)[i]? = some v -> (wk.setRow b #[v0, v1, v2, v3, v4, v5, v6]).cell? ⟨b, i, none⟩ = some v) /\
    COut w cu r A n cn R (.returned (.agg #[v0, v1, v2, v3, v4, v5, v6])) (wk.setRow b #[v0, v1, v2, v3, v4, v5, v6]) := by
  refine ⟨cell7 (setRow_heap wk b old _ _ _ hres), [v0, v1, v2, v3, v4, v5, v6], t, i, c, bd, rfl, ?_, ?_, ?_, h5, hR⟩
  · exact hT.move (by simp) fun b' hlt hS => ⟨by omega, setRow_other wk b b' _ (by omega)⟩
  · exact ⟨hK.os, hK.tape, hK.output, by have := hK.size; simpa using this, fun j hj h1 h2 => (setRow_other wk b j _ (by omega)).trans (hK.block j hj h1 h2)⟩
  · exact hC.other hres (by decide) (fun k hk => setRow_other wk b k _ (by omega))
def Bx (b : Nat) (w : World) : Prop := w.heap[b]? = some (.cells #[.int .i64 0, .string ⟨#[]⟩, .int .i64 0, .string ⟨#[]⟩, .string ⟨#[]⟩, .slice none 0 0, .slice none 0 0] 55 (0, 0))
theorem nameOut_res {α : Type} {S : Toks} {ok : Bool} {i b : Nat} {s : ByteArray} {i' b' : Nat} (h : NameOut S ok i b s i' b') (x : ByteArray -> Nat -> Res α) :
    badR b' i' (x s i') = badR b i (if ok = false then .err 2 i else x (S.T i) (i + 1)) := by
  rcases h with ⟨rfl, rfl, rfl, rfl, rfl⟩ | ⟨rfl, rfl, rfl, rfl⟩ | ⟨hb, rfl, rfl⟩
  · rfl
  · rfl
  · rw [badR_ne _ _ hb, badR_ne _ _ hb]
theorem numOut_res {α : Type} {S : Toks} {i b : Nat} {v : Int} {i' b' : Nat} (h : NumOut S i b v i' b') (x : Int -> Nat -> Res α) :
    badR b' i' (x v i') = badR b i (if S.major i = false then .err 2 i else x (digs (S.T i).data.toList 0) (i + 1)) := by
  rcases h with ⟨rfl, h1, rfl, rfl, rfl⟩ | ⟨rfl, h1, rfl, rfl⟩ | ⟨hb, rfl, rfl⟩
  · rw [h1]; rfl
  · rw [h1]; rfl
  · rw [badR_ne _ _ hb, badR_ne _ _ hb]
def readR (S : Toks) (f d n i c : Nat) : Res Ty := if S.begins i = true /\ 20 < n then .err 3 i else pT S f d i c
theorem readR_one {S : Toks} {f d i c : Nat} : readR S f d 1 i c = pT S f d i c := if_neg (fun x => by omega)
end Go.Proofs.YteecgiebimdbhaaGreatDoor
