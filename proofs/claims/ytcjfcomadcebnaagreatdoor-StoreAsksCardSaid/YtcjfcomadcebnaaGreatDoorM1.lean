/- Helpers, joined: Shelf, Vb, Et, Wf, Ew, Wg, Sv, St, Ez, Sf. -/
import Derived.Shelf.Strings.Builder1
import Derived.Shelf.Strings.Builder2
import Derived.Shelf.Small.Strs
import Derived.Shelf.Strconv.Atoi
import Derived.Shelf.Strconv.Itoa0
import Derived.Shelf.Strconv.Itoa1
import Derived.Shelf.LaysM
import Derived.Shelf.Strconv.Itoa2
import Derived.Shelf.Strconv.Itoa3
import Derived.Shelf.Strconv.AtoiErrFast
import Derived.Shelf.Strconv.ParseIntEmpty
import Derived.Shelf.Strconv.AtoiFail
import Derived.Shelf.Strconv.Clone
import Derived.Shelf.Strconv.SyntaxError
import Derived.Shelf.LaysC
import Derived.Shelf.Strconv.ToError
import Derived.Shelf.Strconv.Lower
import Derived.Shelf.Strconv.ParseUint10
import Derived.Shelf.Strconv.ParseUint10Empty
import Derived.Shelf.Strconv.ParseUint10Any
import Derived.Shelf.Strconv.ParseInt10
import Derived.Shelf.Strconv.AtoiLong
import Derived.Shelf.Strconv.AtoiInnerAll
import Derived.Shelf.Strconv.RangeError
import Derived.Shelf.Strconv.ToErrorRange
import Derived.Shelf.Strconv.AtoiAll
import Derived.Shelf.Strconv.ErrVarAll
import Derived.Shelf.Strconv.ParseUintEmpty
import Derived.Shelf.Strings.Search1
import Derived.Shelf.Strings.Search2
import Derived.Shelf.Strings.Cut
import Derived.Shelf.Strings.Shaped
import Derived.Ground.Names2Prog
import Derived.Shelf.Slices.Clone
import Derived.Ground.SlgnProg
import Derived.Shelf.SlicesE.Clone
import Derived.Test.YtcjfcomadcebnaaGreatDoorProg
import Derived.Lib.ItoaNum
import Derived.Lib.AtoiAll
import Derived.Lib.BitFns
import Derived.Laws.BitsAllLaws
import Derived.WalkSmall
import Derived.Lib.LaidTab
import Derived.Lib.AppendIntMem
import Derived.Lib.AtoiErrMem
import Derived.Lib.Hide
import Derived.WalkKit
import Derived.WalkLawsBesides
import Derived.OneCell
import Derived.LoopN
import Derived.LoopTactic
import Derived.Below
import Derived.WalkSpells
import Derived.BigQuiet
import Derived.Deep.QuietTactic
import Derived.Outline
import Derived.OwnWalk
import Derived.Shelf.GgClosure.Gives
import Derived.Lib.ItoaLen
import Derived.Lib.Bytealg
import Derived.Lib.IndexMore
import Derived.Lib.IndexBytes

/-
  DERIVED: THE SHELF's CONTRACTS AT THIS DUMP, IN PLAIN WORDS (tools/lay-plain.mjs out of 'TryzShelf.lean', which tools/lay-shelf.mjs wrote): THE SAME DECLARATIONS UNDER THE SAME NAMES: 'import', 'namespace', 'open', 'def', 'theorem' AND NOTHING ELSE: no command of the shelf's: FOR A HAND-IN. Each laying: the table of numbers ('.._ren') and one theorem, a field a fact of the dump's own or the kernel's comparison; each contract: ONE APPLICATION.
-/
namespace Go.Proofs
open Go.Shelf
def Tryz.lays137_ren : Go.Shelf.Ren := ⟨fun | 137 => 122 | 217 => 135 | 266 => 145 | n => n, fun | 9 => 9 | 5 => 5 | 3 => 3 | n => n, fun | n => n⟩
theorem Tryz.lays137 : Go.Proofs.Lays.n137 Tryz.prog Tryz.lays137_ren := {
  mixed := by kernel_rfl
  f137 := Tryz.func122.trans (congrArg some (by kernel_rfl))
  f217 := Tryz.func135.trans (congrArg some (by kernel_rfl))
  f266 := Tryz.func145.trans (congrArg some (by kernel_rfl))
  t3 := Tryz.underlying3
  a3 := Tryz.isAgg3
  z3 := Tryz.sizeOf3
  v3 := Tryz.zeroValue3
  t5 := Tryz.underlying5
  a5 := Tryz.isAgg5
  z5 := Tryz.sizeOf5
  v5 := Tryz.zeroValue5
  t9 := Tryz.underlying9
  a9 := Tryz.isAgg9
  z9 := Tryz.sizeOf9
  v9 := Tryz.zeroValue9 }
open Go.RowKit in
theorem Tryz.strings_IndexByte (s : ByteArray) (c : Int) (w : World) :
    Calls Tryz.prog 122 #[.string s, .int .u8 c] w fun e w' => e = .returned (.int .i64 (Lib.indexByte s.data.toList c.toNat.toUInt8)) ∧ w' = w := Any.strings_IndexByte Tryz.lays137 s c w
def Tryz.laysM171_ren : Go.Shelf.Ren := ⟨fun | 171 => 62 | 243 => 80 | 246 => 104 | 283 => 118 | 284 => 119 | 285 => 120 | 286 => 121 | 129 => 131 | 317 => 130 | 318 => 132 | 319 => 133 | 320 => 134 | 337 => 143 | 338 => 144 | n => n, fun | 3 => 3 | 9 => 9 | 2 => 2 | 4 => 4 | 171 => 175 | 0 => 0 | 53 => 176 | 37 => 89 | 5 => 5 | 173 => 179 | 212 => 188 | 51 => 189 | 20 => 20 | 213 => 190 | 46 => 191 | 232 => 202 | 233 => 203 | n => n, fun | 17 => 8 | 18 => 9 | 19 => 10 | n => n⟩
theorem Tryz.laysM171 : Go.Proofs.LaysM.n171 Tryz.prog Tryz.laysM171_ren := {
  mixed := by kernel_rfl
  f129 := Tryz.func131.trans (congrArg some (by kernel_rfl))
  f171 := Tryz.func62.trans (congrArg some (by kernel_rfl))
  f243 := Tryz.func80.trans (congrArg some (by kernel_rfl))
  f246 := Tryz.func104.trans (congrArg some (by kernel_rfl))
  f283 := Tryz.func118.trans (congrArg some (by kernel_rfl))
  f284 := Tryz.func119.trans (congrArg some (by kernel_rfl))
  f285 := Tryz.func120.trans (congrArg some (by kernel_rfl))
  f286 := Tryz.func121.trans (congrArg some (by kernel_rfl))
  f317 := Tryz.func130.trans (congrArg some (by kernel_rfl))
  f318 := Tryz.func132.trans (congrArg some (by kernel_rfl))
  f319 := Tryz.func133.trans (congrArg some (by kernel_rfl))
  f320 := Tryz.func134.trans (congrArg some (by kernel_rfl))
  f337 := Tryz.func143.trans (congrArg some (by kernel_rfl))
  f338 := Tryz.func144.trans (congrArg some (by kernel_rfl))
  t0 := Tryz.underlying0
  a0 := Tryz.isAgg0
  z0 := Tryz.sizeOf0
  v0 := Tryz.zeroValue0
  t2 := Tryz.underlying2
  a2 := Tryz.isAgg2
  z2 := Tryz.sizeOf2
  v2 := Tryz.zeroValue2
  t3 := Tryz.underlying3
  a3 := Tryz.isAgg3
  z3 := Tryz.sizeOf3
  v3 := Tryz.zeroValue3
  t4 := Tryz.underlying4
  a4 := Tryz.isAgg4
  z4 := Tryz.sizeOf4
  v4 := Tryz.zeroValue4
  t5 := Tryz.underlying5
  a5 := Tryz.isAgg5
  z5 := Tryz.sizeOf5
  v5 := Tryz.zeroValue5
  t9 := Tryz.underlying9
  a9 := Tryz.isAgg9
  z9 := Tryz.sizeOf9
  v9 := Tryz.zeroValue9
  t20 := Tryz.underlying20
  a20 := Tryz.isAgg20
  z20 := Tryz.sizeOf20
  v20 := Tryz.zeroValue20
  t37 := Tryz.underlying89
  a37 := Tryz.isAgg89
  z37 := Tryz.sizeOf89
  v37 := Tryz.zeroValue89
  t46 := Tryz.underlying191
  a46 := Tryz.isAgg191
  z46 := Tryz.sizeOf191
  v46 := Tryz.zeroValue191
  t51 := Tryz.underlying189
  a51 := Tryz.isAgg189
  z51 := Tryz.sizeOf189
  v51 := Tryz.zeroValue189
  t53 := Tryz.underlying176
  a53 := Tryz.isAgg176
  z53 := Tryz.sizeOf176
  v53 := Tryz.zeroValue176
  t171 := Tryz.underlying175
  a171 := Tryz.isAgg175
  z171 := Tryz.sizeOf175
  v171 := Tryz.zeroValue175
  t173 := Tryz.underlying179
  a173 := Tryz.isAgg179
  z173 := Tryz.sizeOf179
  v173 := Tryz.zeroValue179
  t212 := Tryz.underlying188
  a212 := Tryz.isAgg188
  z212 := Tryz.sizeOf188
  v212 := Tryz.zeroValue188
  t213 := Tryz.underlying190
  a213 := Tryz.isAgg190
  z213 := Tryz.sizeOf190
  t232 := Tryz.underlying202
  a232 := Tryz.isAgg202
  z232 := Tryz.sizeOf202
  v232 := Tryz.zeroValue202
  t233 := Tryz.underlying203
  a233 := Tryz.isAgg203
  z233 := Tryz.sizeOf203
  v233 := Tryz.zeroValue203
  g17 := by kernel_rfl
  g18 := by kernel_rfl
  g19 := by kernel_rfl
  i0 := by kernel_rfl
  i2 := by kernel_rfl
  i3 := by kernel_rfl
  i4 := by kernel_rfl
  i5 := by kernel_rfl
  i9 := by kernel_rfl
  i20 := by kernel_rfl
  i37 := by kernel_rfl
  i46 := by kernel_rfl
  i51 := by kernel_rfl
  i53 := by kernel_rfl
  i171 := by kernel_rfl
  i173 := by kernel_rfl
  i212 := by kernel_rfl
  i232 := by kernel_rfl
  i233 := by kernel_rfl
  m17 := by kernel_rfl
  m18 := by kernel_rfl
  m19 := by kernel_rfl }
open Go.RowKit Go.Sort Go.Lib in
theorem Tryz.strconv_Itoa (n : Int) (h0 : -9223372036854775808 ≤ n) (h1 : n ≤ 9223372036854775807) (w : World) (htab : Lib.TabIs Tryz.prog w "internal/strconv.uint64pow10" .u64 Lib.pow10Tab) :
    Calls Tryz.prog 62 #[.int .i64 n] w fun e w' => e = .returned (.string ⟨(Lib.itoa n).toArray⟩) ∧ ∃ k os, w' = grow (w.drewN k) os := Any.strconv_Itoa Tryz.laysM171 n h0 h1 w htab
def Tryz.laysC172_ren : Go.Shelf.Ren := ⟨fun | 172 => 123 | 244 => 136 | 245 => 137 | 247 => 146 | 279 => 147 | 280 => 148 | 281 => 149 | 282 => 150 | 287 => 152 | 316 => 153 | 171 => 62 | 205 => 154 | 321 => 158 | 322 => 159 | 243 => 80 | 246 => 104 | 283 => 118 | 284 => 119 | 285 => 120 | 286 => 121 | 129 => 131 | 317 => 130 | 318 => 132 | 319 => 133 | 320 => 134 | 337 => 143 | 338 => 144 | n => n, fun | 9 => 9 | 3 => 3 | 75 => 70 | 76 => 129 | 4 => 4 | 5 => 5 | 167 => 195 | 37 => 89 | 0 => 0 | 85 => 196 | 2 => 2 | 168 => 198 | 53 => 176 | 175 => 204 | 46 => 191 | 210 => 208 | 127 => 146 | 145 => 214 | 143 => 212 | 21 => 21 | 171 => 175 | 173 => 179 | 212 => 188 | 51 => 189 | 20 => 20 | 213 => 190 | 232 => 202 | 233 => 203 | 80 => 41 | n => n, fun | 15 => 11 | 16 => 12 | 17 => 8 | 18 => 9 | 19 => 10 | n => n⟩
theorem Tryz.laysC172 : Go.Proofs.LaysC.n172 Tryz.prog Tryz.laysC172_ren := {
  mixed := by kernel_rfl
  f129 := Tryz.func131.trans (congrArg some (by kernel_rfl))
  f171 := Tryz.func62.trans (congrArg some (by kernel_rfl))
  f172 := Tryz.func123.trans (congrArg some (by kernel_rfl))
  f205 := Tryz.func154.trans (congrArg some (by kernel_rfl))
  f243 := Tryz.func80.trans (congrArg some (by kernel_rfl))
  f244 := Tryz.func136.trans (congrArg some (by kernel_rfl))
  f245 := Tryz.func137.trans (congrArg some (by kernel_rfl))
  f246 := Tryz.func104.trans (congrArg some (by kernel_rfl))
  f247 := Tryz.func146.trans (congrArg some (by kernel_rfl))
  f279 := Tryz.func147.trans (congrArg some (by kernel_rfl))
  f280 := Tryz.func148.trans (congrArg some (by kernel_rfl))
  f281 := Tryz.func149.trans (congrArg some (by kernel_rfl))
  f282 := Tryz.func150.trans (congrArg some (by kernel_rfl))
  f283 := Tryz.func118.trans (congrArg some (by kernel_rfl))
  f284 := Tryz.func119.trans (congrArg some (by kernel_rfl))
  f285 := Tryz.func120.trans (congrArg some (by kernel_rfl))
  f286 := Tryz.func121.trans (congrArg some (by kernel_rfl))
  f287 := Tryz.func152.trans (congrArg some (by kernel_rfl))
  f316 := Tryz.func153.trans (congrArg some (by kernel_rfl))
  f317 := Tryz.func130.trans (congrArg some (by kernel_rfl))
  f318 := Tryz.func132.trans (congrArg some (by kernel_rfl))
  f319 := Tryz.func133.trans (congrArg some (by kernel_rfl))
  f320 := Tryz.func134.trans (congrArg some (by kernel_rfl))
  f321 := Tryz.func158.trans (congrArg some (by kernel_rfl))
  f322 := Tryz.func159.trans (congrArg some (by kernel_rfl))
  f337 := Tryz.func143.trans (congrArg some (by kernel_rfl))
  f338 := Tryz.func144.trans (congrArg some (by kernel_rfl))
  t0 := Tryz.underlying0
  a0 := Tryz.isAgg0
  z0 := Tryz.sizeOf0
  v0 := Tryz.zeroValue0
  t2 := Tryz.underlying2
  a2 := Tryz.isAgg2
  z2 := Tryz.sizeOf2
  v2 := Tryz.zeroValue2
  t3 := Tryz.underlying3
  a3 := Tryz.isAgg3
  z3 := Tryz.sizeOf3
  v3 := Tryz.zeroValue3
  t4 := Tryz.underlying4
  a4 := Tryz.isAgg4
  z4 := Tryz.sizeOf4
  v4 := Tryz.zeroValue4
  t5 := Tryz.underlying5
  a5 := Tryz.isAgg5
  z5 := Tryz.sizeOf5
  v5 := Tryz.zeroValue5
  t9 := Tryz.underlying9
  a9 := Tryz.isAgg9
  z9 := Tryz.sizeOf9
  v9 := Tryz.zeroValue9
  t20 := Tryz.underlying20
  a20 := Tryz.isAgg20
  z20 := Tryz.sizeOf20
  v20 := Tryz.zeroValue20
  t21 := Tryz.underlying21
  a21 := Tryz.isAgg21
  z21 := Tryz.sizeOf21
  v21 := Tryz.zeroValue21
  t37 := Tryz.underlying89
  a37 := Tryz.isAgg89
  z37 := Tryz.sizeOf89
  v37 := Tryz.zeroValue89
  t46 := Tryz.underlying191
  a46 := Tryz.isAgg191
  z46 := Tryz.sizeOf191
  v46 := Tryz.zeroValue191
  t51 := Tryz.underlying189
  a51 := Tryz.isAgg189
  z51 := Tryz.sizeOf189
  v51 := Tryz.zeroValue189
  t53 := Tryz.underlying176
  a53 := Tryz.isAgg176
  z53 := Tryz.sizeOf176
  v53 := Tryz.zeroValue176
  t75 := Tryz.underlying70
  a75 := Tryz.isAgg70
  z75 := Tryz.sizeOf70
  v75 := Tryz.zeroValue70
  t76 := Tryz.underlying129
  a76 := Tryz.isAgg129
  z76 := Tryz.sizeOf129
  v76 := Tryz.zeroValue129
  t85 := Tryz.underlying196
  a85 := Tryz.isAgg196
  z85 := Tryz.sizeOf196
  v85 := Tryz.zeroValue196
  t127 := Tryz.underlying146
  a127 := Tryz.isAgg146
  z127 := Tryz.sizeOf146
  v127 := Tryz.zeroValue146
  t143 := Tryz.underlying212
  a143 := Tryz.isAgg212
  z143 := Tryz.sizeOf212
  v143 := Tryz.zeroValue212
  t145 := Tryz.underlying214
  a145 := Tryz.isAgg214
  z145 := Tryz.sizeOf214
  v145 := Tryz.zeroValue214
  t167 := Tryz.underlying195
  a167 := Tryz.isAgg195
  z167 := Tryz.sizeOf195
  v167 := Tryz.zeroValue195
  t168 := Tryz.underlying198
  a168 := Tryz.isAgg198
  z168 := Tryz.sizeOf198
  v168 := Tryz.zeroValue198
  t171 := Tryz.underlying175
  a171 := Tryz.isAgg175
  z171 := Tryz.sizeOf175
  v171 := Tryz.zeroValue175
  t173 := Tryz.underlying179
  a173 := Tryz.isAgg179
  z173 := Tryz.sizeOf179
  v173 := Tryz.zeroValue179
  t175 := Tryz.underlying204
  a175 := Tryz.isAgg204
  z175 := Tryz.sizeOf204
  v175 := Tryz.zeroValue204
  t210 := Tryz.underlying208
  a210 := Tryz.isAgg208
  z210 := Tryz.sizeOf208
  v210 := Tryz.zeroValue208
  t212 := Tryz.underlying188
  a212 := Tryz.isAgg188
  z212 := Tryz.sizeOf188
  v212 := Tryz.zeroValue188
  t213 := Tryz.underlying190
  a213 := Tryz.isAgg190
  z213 := Tryz.sizeOf190
  t232 := Tryz.underlying202
  a232 := Tryz.isAgg202
  z232 := Tryz.sizeOf202
  v232 := Tryz.zeroValue202
  t233 := Tryz.underlying203
  a233 := Tryz.isAgg203
  z233 := Tryz.sizeOf203
  v233 := Tryz.zeroValue203
  g15 := by kernel_rfl
  g16 := by kernel_rfl
  g17 := by kernel_rfl
  g18 := by kernel_rfl
  g19 := by kernel_rfl
  t80 := Tryz.underlying41
  a80 := Tryz.isAgg41
  z80 := Tryz.sizeOf41
  v80 := Tryz.zeroValue41
  i0 := by kernel_rfl
  i2 := by kernel_rfl
  i3 := by kernel_rfl
  i4 := by kernel_rfl
  i5 := by kernel_rfl
  i9 := by kernel_rfl
  i20 := by kernel_rfl
  i21 := by kernel_rfl
  i37 := by kernel_rfl
  i46 := by kernel_rfl
  i51 := by kernel_rfl
  i53 := by kernel_rfl
  i75 := by kernel_rfl
  i76 := by kernel_rfl
  i80 := by kernel_rfl
  i85 := by kernel_rfl
  i127 := by kernel_rfl
  i143 := by kernel_rfl
  i145 := by kernel_rfl
  i167 := by kernel_rfl
  i168 := by kernel_rfl
  i171 := by kernel_rfl
  i173 := by kernel_rfl
  i175 := by kernel_rfl
  i210 := by kernel_rfl
  i212 := by kernel_rfl
  i232 := by kernel_rfl
  i233 := by kernel_rfl
  m15 := by kernel_rfl
  m16 := by kernel_rfl
  m17 := by kernel_rfl
  m18 := by kernel_rfl
  m19 := by kernel_rfl
  c0 := by kernel_rfl
  c2 := by kernel_rfl
  c3 := by kernel_rfl
  c4 := by kernel_rfl
  c5 := by kernel_rfl
  c9 := by kernel_rfl
  c20 := by kernel_rfl
  c21 := by kernel_rfl
  c37 := by kernel_rfl
  c46 := by kernel_rfl
  c51 := by kernel_rfl
  c53 := by kernel_rfl
  c75 := by kernel_rfl
  c76 := by kernel_rfl
  c80 := by kernel_rfl
  c85 := by kernel_rfl
  c127 := by kernel_rfl
  c143 := by kernel_rfl
  c145 := by kernel_rfl
  c167 := by kernel_rfl
  c168 := by kernel_rfl
  c171 := by kernel_rfl
  c173 := by kernel_rfl
  c175 := by kernel_rfl
  c210 := by kernel_rfl
  c212 := by kernel_rfl
  c213 := by kernel_rfl
  c232 := by kernel_rfl
  c233 := by kernel_rfl }
open Go.RowKit in
theorem Tryz.strconv_Atoi_ok (s : ByteArray) (hmax : s.size ≤ 9223372036854775806) (v : Int) (h : Lib.atoiAll s.data.toList = .ok v) (w : World) :
    Calls Tryz.prog 123 #[.string s] w fun e w' => e = .returned (.tuple #[.int .i64 v, .nilIface]) ∧ (w' = w ∨ ∃ t, w' = Lib.bytesWorld w 5 t) := Any.strconv_Atoi_ok Tryz.laysC172 s hmax v h w
open Go.RowKit in
theorem Tryz.strconv_Atoi_range (s : ByteArray) (hlim : s.size ≤ 281474976710656) (h : Lib.atoiAll s.data.toList = .range) (ev : Value) (w : World) (hv : w.cell? ⟨12, 0, none⟩ = some ev) (hev : ev = .nilIface ∨ ∃ te pe, ev = .iface te pe) :
    Calls Tryz.prog 123 #[.string s] w fun e w' => ∃ N, e = .returned (.tuple #[.int .i64 (Lib.atoiSat s.data.toList), .iface 198 (.pointer (some ⟨N, 0, none⟩))]) ∧ w.heap.size ≤ N ∧ w'.heap[N]? = some (.cells #[.string ⟨#[65, 116, 111, 105]⟩, .string s, ev] 208 (0, 0)) ∧ Below w.heap.size w w' := Any.strconv_Atoi_range Tryz.laysC172 s hlim h ev w hv hev
def Tryz.lays145_ren : Go.Shelf.Ren := ⟨fun | 145 => 124 | 220 => 138 | 219 => 151 | 217 => 135 | 225 => 155 | 224 => 156 | 267 => 157 | 266 => 145 | 314 => 160 | n => n, fun | 9 => 9 | 4 => 4 | 59 => 182 | 3 => 3 | 5 => 5 | 46 => 191 | 146 => 215 | 51 => 189 | n => n, fun | 1 => 7 | n => n⟩
theorem Tryz.lays145 : Go.Proofs.Lays.n145 Tryz.prog Tryz.lays145_ren := {
  mixed := by kernel_rfl
  f145 := Tryz.func124.trans (congrArg some (by kernel_rfl))
  f217 := Tryz.func135.trans (congrArg some (by kernel_rfl))
  f219 := Tryz.func151.trans (congrArg some (by kernel_rfl))
  f220 := Tryz.func138.trans (congrArg some (by kernel_rfl))
  f224 := Tryz.func156.trans (congrArg some (by kernel_rfl))
  f225 := Tryz.func155.trans (congrArg some (by kernel_rfl))
  f266 := Tryz.func145.trans (congrArg some (by kernel_rfl))
  f267 := Tryz.func157.trans (congrArg some (by kernel_rfl))
  f314 := Tryz.func160.trans (congrArg some (by kernel_rfl))
  t3 := Tryz.underlying3
  a3 := Tryz.isAgg3
  z3 := Tryz.sizeOf3
  v3 := Tryz.zeroValue3
  t4 := Tryz.underlying4
  a4 := Tryz.isAgg4
  z4 := Tryz.sizeOf4
  v4 := Tryz.zeroValue4
  t5 := Tryz.underlying5
  a5 := Tryz.isAgg5
  z5 := Tryz.sizeOf5
  v5 := Tryz.zeroValue5
  t9 := Tryz.underlying9
  a9 := Tryz.isAgg9
  z9 := Tryz.sizeOf9
  v9 := Tryz.zeroValue9
  t46 := Tryz.underlying191
  a46 := Tryz.isAgg191
  z46 := Tryz.sizeOf191
  v46 := Tryz.zeroValue191
  t51 := Tryz.underlying189
  a51 := Tryz.isAgg189
  z51 := Tryz.sizeOf189
  v51 := Tryz.zeroValue189
  t59 := Tryz.underlying182
  a59 := Tryz.isAgg182
  z59 := Tryz.sizeOf182
  v59 := Tryz.zeroValue182
  t146 := Tryz.underlying215
  a146 := Tryz.isAgg215
  z146 := Tryz.sizeOf215
  v146 := Tryz.zeroValue215
  g1 := by kernel_rfl }
open Go.RowKit Go.Lib in
theorem Tryz.strings_Cut (s sep : ByteArray) (m : Int) (w : World) (hs : s.size < 4294967281) (hm : w.cell? ⟨7, 0, none⟩ = some (.int .i64 m)) :
    Calls Tryz.prog 124 #[.string s, .string sep] w fun e w' => e = .returned (.tuple #[.string ⟨(Lib.cut s.data.toList sep.data.toList).1.toArray⟩, .string ⟨(Lib.cut s.data.toList sep.data.toList).2.1.toArray⟩, .bool (Lib.cut s.data.toList sep.data.toList).2.2]) ∧ ∃ n, w' = w.drewN n := Any.strings_Cut Tryz.lays145 s sep m w hs hm
def Tryz.laysNm215_ren : Go.Shelf.Ren := ⟨fun | 15 => 46 | n => n, fun | 22 => 37 | 3 => 3 | 4 => 4 | n => n, fun | n => n⟩
theorem Tryz.laysNm215 : Go.Proofs.Lays2.n15 Tryz.prog Tryz.laysNm215_ren := {
  mixed := by kernel_rfl
  f15 := Tryz.func46.trans (congrArg some (by kernel_rfl))
  t3 := Tryz.underlying3
  a3 := Tryz.isAgg3
  z3 := Tryz.sizeOf3
  v3 := Tryz.zeroValue3
  t4 := Tryz.underlying4
  a4 := Tryz.isAgg4
  z4 := Tryz.sizeOf4
  v4 := Tryz.zeroValue4
  t22 := Tryz.underlying37
  a22 := Tryz.isAgg37
  z22 := Tryz.sizeOf37
  v22 := Tryz.zeroValue37
  i3 := by kernel_rfl }
open Go.RowKit Go.Lib in
theorem Tryz.slices_Clone_int (b off n c : Nat) (zs : List Int) (w : World) (hz : n ≤ zs.length) (hbig : n * 8 ≤ 140737488355328) (hc : ∀ j, j < zs.length → w.cell? ⟨b, off + j, none⟩ = some (.int .i64 (zs.getD j 0))) :
    Calls Tryz.prog 46 #[.slice (some ⟨b, off, none⟩) n c] w fun e w' => ∃ v', e = .returned v' ∧ w'.ownsRow w.heap.size 3 1 v' n ((zs.take n).map (Value.int .i64)) ∧ v' ≠ .slice none 0 0 ∧ Below w.heap.size w w' := Any.slices_Clone_int Tryz.laysNm215 b off n c zs w hz hbig hc
open Go.RowKit Go.Lib in
theorem Tryz.slices_Clone_int_nil (n c : Nat) (w : World) :
    Calls Tryz.prog 46 #[.slice none n c] w fun e w' => e = .returned (.slice none 0 0) ∧ w' = w := Any.slices_Clone_int_nil Tryz.laysNm215 n c w
def Tryz.laysNm216_ren : Go.Shelf.Ren := ⟨fun | 16 => 48 | n => n, fun | 24 => 61 | 9 => 9 | 4 => 4 | n => n, fun | n => n⟩
theorem Tryz.laysNm216 : Go.Proofs.Lays2.n16 Tryz.prog Tryz.laysNm216_ren := {
  mixed := by kernel_rfl
  f16 := Tryz.func48.trans (congrArg some (by kernel_rfl))
  t4 := Tryz.underlying4
  a4 := Tryz.isAgg4
  z4 := Tryz.sizeOf4
  v4 := Tryz.zeroValue4
  t9 := Tryz.underlying9
  a9 := Tryz.isAgg9
  z9 := Tryz.sizeOf9
  v9 := Tryz.zeroValue9
  t24 := Tryz.underlying61
  a24 := Tryz.isAgg61
  z24 := Tryz.sizeOf61
  v24 := Tryz.zeroValue61
  i9 := by kernel_rfl }
open Go.RowKit Go.Lib in
theorem Tryz.slices_Clone_string (b off n c : Nat) (zs : List ByteArray) (w : World) (hz : n ≤ zs.length) (hbig : n * 16 ≤ 140737488355328) (hc : ∀ j, j < zs.length → w.cell? ⟨b, off + j, none⟩ = some (.string (zs.getD j ByteArray.empty))) :
    Calls Tryz.prog 48 #[.slice (some ⟨b, off, none⟩) n c] w fun e w' => ∃ v', e = .returned v' ∧ w'.ownsRow w.heap.size 9 1 v' n ((zs.take n).map (Value.string)) ∧ v' ≠ .slice none 0 0 ∧ Below w.heap.size w w' := Any.slices_Clone_string Tryz.laysNm216 b off n c zs w hz hbig hc
open Go.RowKit Go.Lib in
theorem Tryz.slices_Clone_string_nil (n c : Nat) (w : World) :
    Calls Tryz.prog 48 #[.slice none n c] w fun e w' => e = .returned (.slice none 0 0) ∧ w' = w := Any.slices_Clone_string_nil Tryz.laysNm216 n c w
open Go.RowKit Go.Lib in
theorem Tryz.slices_Clone_int_zero (a : Addr) (c : Nat) (w : World) :
    Calls Tryz.prog 46 #[.slice (some a) 0 c] w fun e w' => ∃ v', e = .returned v' ∧ w'.ownsRow w.heap.size 3 1 v' 0 [] ∧ v' ≠ .slice none 0 0 ∧ Below w.heap.size w w' := Any.slices_Clone_int_zero Tryz.laysNm215 a c w
open Go.RowKit Go.Lib in
theorem Tryz.slices_Clone_string_zero (a : Addr) (c : Nat) (w : World) :
    Calls Tryz.prog 48 #[.slice (some a) 0 c] w fun e w' => ∃ v', e = .returned v' ∧ w'.ownsRow w.heap.size 9 1 v' 0 [] ∧ v' ≠ .slice none 0 0 ∧ Below w.heap.size w w' := Any.slices_Clone_string_zero Tryz.laysNm216 a c w
end Go.Proofs

/- Plain words on numbers for package word: the fold of signed numbers, their bytes, seven bits each, how these are read, decimal numerals there and back. No program is named. -/
namespace Go.Proofs.YtcjfcomadcebnaaGreatDoor
open Go

/-- The numbers below 0 between the others. -/
def foldN (n : Int) : Nat := if 0 ≤ n then (2 * n).toNat else (-2 * n - 1).toNat
def unfoldN (u : Nat) : Int := if u % 2 = 0 then (u / 2 : Nat) else -((u / 2 : Nat) : Int) - 1

theorem unfold_fold (n : Int) : unfoldN (foldN n) = n := by
  unfold unfoldN foldN
  split <;> split <;> omega
theorem fold_unfold (u : Nat) : foldN (unfoldN u) = u := by
  unfold unfoldN foldN
  split <;> split <;> omega
theorem fold_lt (n : Int) (h0 : -9223372036854775808 ≤ n) (h1 : n ≤ 9223372036854775807) : foldN n < 18446744073709551616 := by
  unfold foldN; split <;> omega
theorem unfold_range (u : Nat) (h : u < 18446744073709551616) : -9223372036854775808 ≤ unfoldN u ∧ unfoldN u ≤ 9223372036854775807 := by
  unfold unfoldN; split <;> omega
theorem fold_inj {n m : Int} (h : foldN n = foldN m) : n = m := by rw [← unfold_fold n, ← unfold_fold m, h]

theorem xor_ones (x : Nat) (h : x < 18446744073709551616) : x ^^^ 18446744073709551615 = 18446744073709551615 - x := by
  have h1 := BitVec.toNat_not (x := BitVec.ofNat 64 x)
  rw [BitVec.toNat_ofNat, Nat.mod_eq_of_lt h] at h1
  have h2 : ~~~(BitVec.ofNat 64 x) = BitVec.ofNat 64 x ^^^ BitVec.allOnes 64 := (BitVec.xor_allOnes).symm
  rw [h2, BitVec.toNat_xor, BitVec.toNat_allOnes, BitVec.toNat_ofNat, Nat.mod_eq_of_lt h] at h1
  exact h1

theorem fold_bits (n : Int) (h0 : -9223372036854775808 ≤ n) (h1 : n ≤ 9223372036854775807) :
    bits .xor .u64 (IntKind.u64.wrap (IntKind.u64.wrap n * 2)) (IntKind.u64.wrap (n / 9223372036854775808)) = (foldN n : Int) := by
  rw [IntKind.wrap_u64, IntKind.wrap_u64, IntKind.wrap_u64]
  rw [u64_xor _ _ (by omega) (by omega) (by omega) (by omega)]
  by_cases h : 0 ≤ n
  · have e1 : (n / 9223372036854775808 % 18446744073709551616).toNat = 0 := by omega
    rw [e1, Nat.xor_zero]
    unfold foldN
    rw [if_pos h]; omega
  · have e1 : (n / 9223372036854775808 % 18446744073709551616).toNat = 18446744073709551615 := by omega
    rw [e1, xor_ones _ (by omega)]
    unfold foldN
    rw [if_neg h]; omega

/-- The bytes of a number without sign. -/
def vb (u : Nat) : List Nat := if u < 128 then [u] else (u % 128 + 128) :: vb (u / 128)
termination_by u
decreasing_by omega

theorem vb_small {u : Nat} (h : u < 128) : vb u = [u] := by rw [vb, if_pos h]
theorem vb_big {u : Nat} (h : ¬ u < 128) : vb u = (u % 128 + 128) :: vb (u / 128) := by rw [vb, if_neg h]
theorem vb_ne (u : Nat) : vb u ≠ [] := by
  by_cases h : u < 128
  · rw [vb_small h]; simp
  · rw [vb_big h]; simp
theorem vb_byte (u : Nat) : ∀ b ∈ vb u, b < 256 := by
  induction u using Nat.strongRecOn with
  | _ u ih =>
    by_cases h : u < 128
    · rw [vb_small h]; simp; omega
    · rw [vb_big h]
      intro b hb
      rcases List.mem_cons.1 hb with rfl | hb
      · omega
      · exact ih _ (by omega) b hb
theorem vb_len_pos (u : Nat) : 1 ≤ (vb u).length := by
  have := vb_ne u
  cases h : vb u with
  | nil => exact absurd h this
  | cons a l => simp
theorem vb_len_le : ∀ (k u : Nat), u < 128 ^ k → 1 ≤ k → (vb u).length ≤ k
  | 0, _, _, h => by omega
  | 1, u, h, _ => by rw [vb_small (by simpa using h)]; simp
  | k + 2, u, h, _ => by
    by_cases hs : u < 128
    · rw [vb_small hs]; simp
    · rw [vb_big hs, List.length_cons]
      have := vb_len_le (k + 1) (u / 128) (by rw [Nat.pow_succ] at h; omega) (by omega)
      omega
theorem vb_len_10 (u : Nat) (h : u < 18446744073709551616) : (vb u).length ≤ 10 := vb_len_le 10 u (by omega) (by decide)

theorem or_one (u : Nat) : u ||| 1 = if u % 2 = 0 then u + 1 else u := by
  split
  · rename_i h
    rw [nat_join 1 u 1 (by simpa using h) (by decide)]
  · rename_i h
    have e : u = (u - 1) ||| 1 := by
      rw [nat_join 1 (u - 1) 1 (by omega) (by decide)]; omega
    calc u ||| 1 = ((u - 1) ||| 1) ||| 1 := by rw [← e]
      _ = (u - 1) ||| (1 ||| 1) := Nat.or_assoc _ _ _
      _ = u := by rw [Nat.or_self, ← e]

theorem bitLen_pos {x : Nat} (h : x ≠ 0) : 1 ≤ Lib.bitLen x := by
  unfold Lib.bitLen Lib.bitLenAux
  rw [if_neg h]; omega

theorem size_eq' : ∀ (k u : Nat), u < 128 ^ k → u < 18446744073709551616 → 1 ≤ k → (vb u).length = (Lib.bitLen (u ||| 1) + 6) / 7
  | 0, _, _, _, h => by omega
  | k + 1, u, h, hu, _ => by
    by_cases hs : u < 128
    · rw [vb_small hs]
      have h1 := bitLen_pos (x := u ||| 1) (by rw [or_one]; split <;> omega)
      have h2 := Lib.bitLen_le (u ||| 1) 7 (by decide) (by rw [or_one]; split <;> omega)
      simp only [List.length_cons, List.length_nil]
      omega
    · rw [vb_big hs, List.length_cons]
      have hk : 1 ≤ k := by
        rcases Nat.eq_zero_or_pos k with e | e
        · subst e; simp at h; omega
        · exact e
      rw [size_eq' k (u / 128) (by rw [Nat.pow_succ] at h; omega) (by omega) hk]
      have hb : 128 ≤ u ||| 1 := by rw [or_one]; split <;> omega
      have hl : u ||| 1 < 2 ^ 64 := by rw [or_one]; split <;> omega
      have e1 := Lib.bitLen_shift 7 (u ||| 1) hb hl
      rw [e1]
      -- below the bits that went, the same number of bits
      have hd : (u ||| 1) / 2 ^ 7 = u / 128 := by rw [or_one]; split <;> omega
      rw [hd]
      have h3 : Lib.bitLen (u / 128 ||| 1) = Lib.bitLen (u / 128) := by
        rw [or_one]
        split
        · rename_i he
          have hne : u / 128 ≠ 0 := by omega
          rw [Lib.bitLen_half (u / 128 + 1) (by omega) (by omega), Lib.bitLen_half (u / 128) hne (by omega), show (u / 128 + 1) / 2 = u / 128 / 2 by omega]
        · rfl
      rw [h3]
      omega
theorem size_eq (u : Nat) (h : u < 18446744073709551616) : (vb u).length = (Lib.bitLen (u ||| 1) + 6) / 7 := size_eq' 10 u (by omega) h (by decide)

/-- How reading ends. -/
inductive GRes where
  | long
  | endd
  | ok (u used : Nat)

/-- Reading from place i on, acc being what was read. -/
def getL : Nat → Nat → List Nat → GRes
  | _, _, [] => .endd
  | i, acc, c :: cs => if (i = 9 ∧ 1 < c) ∨ (0 < i ∧ c = 0) then .long else if c < 128 then .ok (acc + c * 128 ^ i) (i + 1) else getL (i + 1) (acc + (c - 128) * 128 ^ i) cs

theorem getL_vb : ∀ (k : Nat) (i acc u : Nat) (rest : List Nat), u < 128 ^ k → i + k ≤ 10 → (i + k = 10 → u < 128 ^ (k - 1) * 2) → (0 < i → 0 < u) → 1 ≤ k → getL i acc (vb u ++ rest) = .ok (acc + u * 128 ^ i) (i + (vb u).length)
  | 0, _, _, _, _, _, _, _, _, h => by omega
  | k + 1, i, acc, u, rest, hu, hi, hl, hp, _ => by
    by_cases hs : u < 128
    · rw [vb_small hs]
      simp only [List.cons_append, List.nil_append, getL, List.length_cons, List.length_nil]
      rw [if_neg ?_, if_pos hs]
      rintro (⟨h1, h2⟩ | ⟨h1, h2⟩)
      · have h3 := hl (by omega)
        have hk : k = 0 := by omega
        subst hk
        simp at h3; omega
      · have := hp h1; omega
    · rw [vb_big hs]
      have hk : 1 ≤ k := by
        rcases Nat.eq_zero_or_pos k with e | e
        · subst e; simp at hu; omega
        · exact e
      simp only [List.cons_append, getL, List.length_cons]
      rw [if_neg (by omega), if_neg (by omega)]
      rw [getL_vb k (i + 1) _ (u / 128) rest (by rw [Nat.pow_succ] at hu; omega) (by omega) (fun h => ?_) (fun _ => by omega) hk]
      · have e : acc + (u % 128 + 128 - 128) * 128 ^ i + u / 128 * 128 ^ (i + 1) = acc + u * 128 ^ i := by
          rw [Nat.add_sub_cancel, Nat.pow_succ]
          have h1 : u = u % 128 + 128 * (u / 128) := by omega
          have h2 : u / 128 * (128 ^ i * 128) = 128 * (u / 128) * 128 ^ i := by
            rw [Nat.mul_comm (128 ^ i) 128, ← Nat.mul_assoc, Nat.mul_comm (u / 128) 128]
          rw [h2, Nat.add_assoc, ← Nat.add_mul, ← h1]
        rw [e]
        congr 1; omega
      · have h3 := hl (by omega)
        have e : 128 ^ (k + 1 - 1) * 2 = 128 * (128 ^ (k - 1) * 2) := by
          have : k + 1 - 1 = (k - 1) + 1 := by omega
          rw [this, Nat.pow_succ, Nat.mul_comm (128 ^ (k - 1)) 128, Nat.mul_assoc]
        rw [e] at h3
        omega

theorem get_vb (u : Nat) (rest : List Nat) (h : u < 18446744073709551616) : getL 0 0 (vb u ++ rest) = .ok u (vb u).length := by
  have := getL_vb 10 0 0 u rest (by omega) (by decide) (fun _ => by omega) (fun h => by omega) (by decide)
  simpa using this

/-- What is read was written so. -/
theorem getL_ok : ∀ (l : List Nat) (i acc u k : Nat), i ≤ 9 → (∀ c ∈ l, c < 256) → getL i acc l = .ok u k → ∃ v, u = acc + v * 128 ^ i ∧ (0 < i → 0 < v) ∧ v < 2 * 128 ^ (9 - i) ∧ k = i + (vb v).length ∧ vb v <+: l
  | [], i, acc, u, k, _, _, h => by simp [getL] at h
  | c :: cs, i, acc, u, k, hi, hc, h => by
    simp only [getL] at h
    split at h
    · cases h
    · rename_i h1
      have hcb := hc c (List.mem_cons_self ..)
      split at h
      · rename_i h2
        cases h
        refine ⟨c, rfl, fun h => by omega, ?_, by rw [vb_small h2]; rfl, by rw [vb_small h2]; exact ⟨cs, rfl⟩⟩
        by_cases h9 : i = 9
        · subst h9; simp; omega
        · have : 128 ^ 1 ≤ 128 ^ (9 - i) := Nat.pow_le_pow_right (by decide) (by omega)
          omega
      · rename_i h2
        have h9 : i ≠ 9 := fun e => h1 (.inl ⟨e, by omega⟩)
        obtain ⟨v, hu, hp, hv, hk, hpre⟩ := getL_ok cs (i + 1) _ u k (by omega) (fun c hc' => hc c (List.mem_cons_of_mem _ hc')) h
        have hp' := hp (by omega)
        have hb : ¬ (c - 128 + 128 * v) < 128 := by omega
        refine ⟨c - 128 + 128 * v, ?_, fun _ => by omega, ?_, ?_, ?_⟩
        · rw [hu, Nat.pow_succ, Nat.add_mul]
          have : v * (128 ^ i * 128) = 128 * v * 128 ^ i := by
            rw [Nat.mul_comm (128 ^ i) 128, ← Nat.mul_assoc, Nat.mul_comm v 128]
          rw [this]; omega
        · have e : 9 - i = (9 - (i + 1)) + 1 := by omega
          rw [e, Nat.pow_succ]
          have h4 : v + 1 ≤ 2 * 128 ^ (9 - (i + 1)) := hv
          have h5 : c - 128 < 128 := by omega
          calc c - 128 + 128 * v < 128 + 128 * v := by omega
            _ = (v + 1) * 128 := by omega
            _ ≤ 2 * 128 ^ (9 - (i + 1)) * 128 := Nat.mul_le_mul_right _ h4
            _ = 2 * (128 ^ (9 - (i + 1)) * 128) := Nat.mul_assoc _ _ _
        · rw [vb_big hb, List.length_cons, hk, show (c - 128 + 128 * v) / 128 = v by omega]; omega
        · rw [vb_big hb, show (c - 128 + 128 * v) / 128 = v by omega, show (c - 128 + 128 * v) % 128 + 128 = c by omega]
          exact List.prefix_cons_inj c |>.2 hpre
theorem get_ok {l : List Nat} {u k : Nat} (hl : ∀ c ∈ l, c < 256) (h : getL 0 0 l = .ok u k) : u < 18446744073709551616 ∧ k = (vb u).length ∧ l.take k = vb u ∧ 1 ≤ k ∧ k ≤ l.length := by
  obtain ⟨v, hu, _, hv, hk, hp⟩ := getL_ok l 0 0 u k (by decide) hl h
  have e : u = v := by simpa using hu
  subst e
  have h1 := vb_len_pos u
  have h2 := hp.length_le
  refine ⟨by simpa using hv, by simpa using hk, ?_, by omega, by omega⟩
  obtain ⟨t, rfl⟩ := hp
  rw [hk]; simp

/-- No number's bytes begin another's. -/
theorem vb_apart {u v : Nat} (hu : u < 18446744073709551616) (hv : v < 18446744073709551616) (h : (vb u).take (min (vb u).length (vb v).length) = (vb v).take (min (vb u).length (vb v).length)) : u = v := by
  rcases Nat.le_total (vb u).length (vb v).length with hl | hl
  · rw [Nat.min_eq_left hl, List.take_length] at h
    have h1 := get_vb u ((vb v).drop (vb u).length) hu
    rw [(congrArg (· ++ (vb v).drop (vb u).length) h).trans (List.take_append_drop _ _)] at h1
    have h2 := get_vb v [] hv
    rw [List.append_nil] at h2
    rw [h2] at h1
    injection h1 with h1 _
    exact h1.symm
  · rw [Nat.min_eq_right hl, List.take_length] at h
    have h1 := get_vb v ((vb u).drop (vb v).length) hv
    rw [(congrArg (· ++ (vb u).drop (vb v).length) h.symm).trans (List.take_append_drop _ _)] at h1
    have h2 := get_vb u [] hu
    rw [List.append_nil] at h2
    rw [h2] at h1
    injection h1 with h1 _

/-- Numerals there and back. -/
theorem parse_append : ∀ (l : List UInt8) (a u : Nat) (r : List UInt8), Lib.parseUint10 a l = .ok u → Lib.parseUint10 a (l ++ r) = Lib.parseUint10 u r
  | [], a, u, r, h => by
    simp only [Lib.parseUint10] at h
    cases h; rfl
  | c :: l, a, u, r, h => by
    simp only [Lib.parseUint10, List.cons_append] at h ⊢
    split
    · rename_i hc
      rw [if_pos hc] at h
      split
      · rename_i h1; rw [if_pos h1] at h; cases h
      · rename_i h1
        rw [if_neg h1] at h
        split
        · rename_i h2; rw [if_pos h2] at h; cases h
        · rename_i h2
          rw [if_neg h2] at h
          exact parse_append l _ u r h
    · rename_i hc; rw [if_neg hc] at h; cases h
theorem digit_nat (d : Nat) (h : d < 10) : (UInt8.ofNat (48 + d)).toNat = 48 + d := by
  rw [UInt8.toNat_ofNat']; omega
theorem parse_dec (u : Nat) (h : u < 18446744073709551616) : Lib.parseUint10 0 (Lib.decDigits u) = .ok u := by
  induction u using Nat.strongRecOn with
  | _ u ih =>
    by_cases hs : u < 10
    · rw [Lib.decDigits, dif_pos hs]
      simp only [Lib.parseUint10, digit_nat u hs]
      rw [if_pos (by omega), if_neg (by omega), if_neg (by omega)]
      simp
    · rw [Lib.decDigits, dif_neg hs, parse_append _ 0 (u / 10) _ (ih _ (by omega) (by omega))]
      simp only [Lib.parseUint10, digit_nat (u % 10) (by omega)]
      rw [if_pos (by omega), if_neg (by omega), if_neg (by omega)]
      congr 1; omega
theorem dec_head (u : Nat) : ∃ d r, Lib.decDigits u = d :: r ∧ 48 ≤ d.toNat ∧ d.toNat ≤ 57 := by
  induction u using Nat.strongRecOn with
  | _ u ih =>
    by_cases hs : u < 10
    · rw [Lib.decDigits, dif_pos hs]
      exact ⟨_, _, rfl, by rw [digit_nat u hs]; omega, by rw [digit_nat u hs]; omega⟩
    · rw [Lib.decDigits, dif_neg hs]
      obtain ⟨d, r, e, h1, h2⟩ := ih (u / 10) (by omega)
      rw [e]
      exact ⟨d, _, rfl, h1, h2⟩
theorem atoi_itoa (n : Int) (h0 : -9223372036854775808 ≤ n) (h1 : n ≤ 9223372036854775807) : Lib.atoiAll (Lib.itoa n) = .ok n := by
  unfold Lib.itoa
  split
  · rename_i hn
    obtain ⟨d, r, e, hd1, hd2⟩ := dec_head n.natAbs
    have hp := parse_dec n.natAbs (by omega)
    have hm : Lib.parseMag (Lib.decDigits n.natAbs) = .ok n.natAbs := by
      unfold Lib.parseMag; rw [if_neg (by rw [e]; simp), hp]
    simp only [Lib.atoiAll]
    rw [show (45 : UInt8).toNat = 45 by rfl]
    simp only [or_true, if_true, hm, not_true_eq_false, false_and, if_false, true_and]
    rw [if_neg (by omega)]
    congr 1; omega
  · rename_i hn
    obtain ⟨d, r, e, hd1, hd2⟩ := dec_head n.toNat
    have hp := parse_dec n.toNat (by omega)
    have hm : Lib.parseMag (Lib.decDigits n.toNat) = .ok n.toNat := by
      unfold Lib.parseMag; rw [if_neg (by rw [e]; simp), hp]
    rw [e] at hm ⊢
    simp only [Lib.atoiAll]
    rw [if_neg (show ¬ (d.toNat = 43 ∨ d.toNat = 45) by omega), hm]
    have h45 : ¬ d.toNat = 45 := by omega
    simp only [h45, not_false_eq_true, true_and, false_and, if_false]
    rw [if_neg (by omega)]
    congr 1; omega
theorem itoa_inj {n m : Int} (hn : -9223372036854775808 ≤ n ∧ n ≤ 9223372036854775807) (hm : -9223372036854775808 ≤ m ∧ m ≤ 9223372036854775807) (h : Lib.itoa n = Lib.itoa m) : n = m := by
  have h1 := atoi_itoa n hn.1 hn.2
  have h2 := atoi_itoa m hm.1 hm.2
  rw [h, h2] at h1
  cases h1; rfl
end Go.Proofs.YtcjfcomadcebnaaGreatDoor

/- The tables of words, plainly: a row a table, a place a code. -/
namespace Go.Proofs.YtcjfcomadcebnaaGreatDoor

/-- The rows of the tables of words. -/
def wtab : List (List (List UInt8)) := [
  [[], [], [], [], [], [], [], [], [], []],
  [[], [114, 101, 103, 105, 115, 116, 101, 114], [99, 111, 117, 110, 116, 101, 114], [113, 117, 101, 117, 101], [109, 97, 112], [], [], [], [], []],
  [[], [98, 101, 103, 105, 110], [99, 97, 108, 108], [114, 101, 116, 117, 114, 110], [116, 114, 121], [99, 111, 109, 109, 105, 116], [97, 98, 111, 114, 116], [99, 97, 110, 99, 101, 108], [], []],
  [[], [114, 101, 97, 100], [119, 114, 105, 116, 101], [97, 100, 100], [103, 101, 116], [101, 110, 113], [100, 101, 113], [112, 117, 116], [108, 111, 111, 107], [100, 101, 108]],
  [[], [111, 107], [110, 111, 110, 101], [118, 97, 108], [], [], [], [], [], []],
  [[], [108, 105, 118, 101], [112, 101, 110, 100, 105, 110, 103], [99, 111, 109, 109, 105, 116, 116, 101, 100], [97, 98, 111, 114, 116, 101, 100], [], [], [], [], []],
  [[], [115, 101, 114, 105, 97, 108], [115, 116, 114, 105, 99, 116], [102, 105, 110, 97, 108], [111, 112, 97, 113, 117, 101], [], [], [], [], []]]
/-- All of them behind one another. -/
def wflat : List (List UInt8) := wtab.flatten

/-- A table's row. -/
def wrow (t : Nat) : List (List UInt8) := wtab.getD t []
/-- A code's word. -/
def wordL (t c : Int) : List UInt8 := if 0 ≤ t ∧ t < 7 ∧ 0 ≤ c ∧ c < 10 then (wrow t.toNat).getD c.toNat [] else []
/-- The first of these that is the word. -/
def firstOf (l : List UInt8) : Nat → List (List UInt8) → Option Nat
  | _, [] => none
  | k, x :: xs => if x = l then some k else firstOf l (k + 1) xs
/-- A word's code. -/
def codeL (t : Int) (w : List UInt8) : Option Nat := if w ≠ [] ∧ 0 ≤ t ∧ t < 7 then firstOf w 0 (wrow t.toNat) else none

theorem wflat_len : wflat.length = 70 := by decide
theorem wflat_at : ∀ t : Nat, t < 7 → ∀ c : Nat, c < 10 → wflat.getD (t * 10 + c) [] = (wrow t).getD c [] := by decide
theorem wordL_in {t c : Nat} (ht : t < 7) (hc : c < 10) : wordL t c = (wrow t).getD c [] := by
  unfold wordL
  rw [if_pos ⟨by omega, by omega, by omega, by omega⟩, Int.toNat_natCast, Int.toNat_natCast]
theorem wordL_out {t c : Int} (h : t < 0 ∨ 7 ≤ t ∨ c < 0 ∨ 10 ≤ c) : wordL t c = [] := by
  unfold wordL
  rw [if_neg (by omega)]
/-- Rows have ten places. -/
theorem wrow_len : ∀ t : Nat, t < 7 → (wrow t).length = 10 := by decide
end Go.Proofs.YtcjfcomadcebnaaGreatDoor

/- Texts; what the variables hold. -/
namespace Go.Proofs.YtcjfcomadcebnaaGreatDoor
open Go.RowKit Go.Maps Go.WideMaps Go.WideElems Go.ChangeShapes Go.WideShapes

/-- The tables of words lie in their variable. -/
def WordsAt (w : World) : Prop := ∀ i, i < 70 → w.cell? ⟨1, i, none⟩ = some (.string ⟨(wflat.getD i []).toArray⟩)
/-- The bounds of a field. -/
def bndL : List Int := [1, 1000, 0, 7, 0, 7, 1, 9, 0, 1000, 1, 3, -1000000000, 1000000000]
/-- The bounds lie in their variable. -/
def BoundsAt (w : World) : Prop := ∀ i, i < 14 → w.cell? ⟨5, i, none⟩ = some (.int .i64 (bndL.getD i 0))

/-- What the variables hold that the calls read. The errors: 0 op, 2 event, 3 object, 5 many, 6 code. -/
structure Glob (T : TypeId) (er : Nat → Addr) (w : World) : Prop where
  size : 13 ≤ w.heap.size
  eOp : w.cell? ⟨2, 0, none⟩ = some (.iface T (.pointer (some (er 0))))
  eEvent : w.cell? ⟨3, 0, none⟩ = some (.iface T (.pointer (some (er 2))))
  eObject : w.cell? ⟨0, 0, none⟩ = some (.iface T (.pointer (some (er 3))))
  eMany : w.cell? ⟨4, 0, none⟩ = some (.iface T (.pointer (some (er 5))))
  eCode : w.cell? ⟨6, 0, none⟩ = some (.iface T (.pointer (some (er 6))))
  maxLen : ∃ m, w.cell? ⟨7, 0, none⟩ = some (.int .i64 m)
  eSyntax : ∃ tp p, w.cell? ⟨11, 0, none⟩ = some (.iface tp p)
  eRange : ∃ tp p, w.cell? ⟨12, 0, none⟩ = some (.iface tp p)
  tab : Lib.TabIs Tryz.prog w "internal/strconv.uint64pow10" .u64 Lib.pow10Tab
  words : WordsAt w
  bounds : BoundsAt w

theorem globTab : Tryz.prog.globalNamed "internal/strconv.uint64pow10" = some 8 := by kernel_rfl

theorem low_cell {w w' : World} {B : Nat} (hb : Below B w w') (hB : 13 ≤ B) (g i : Nat) (hg : g < 13) : w'.cell? ⟨g, i, none⟩ = w.cell? ⟨g, i, none⟩ := hb.cell (p := ⟨g, i, none⟩) (by show g < B; omega)
theorem Glob.below {T : TypeId} {er : Nat → Addr} {w w' : World} {B : Nat} (h : Glob T er w) (hb : Below B w w') (hB : 13 ≤ B) : Glob T er w' := by
  have k := low_cell hb hB
  exact ⟨Nat.le_trans h.size hb.size, (k 2 0 (by decide)).trans h.eOp, (k 3 0 (by decide)).trans h.eEvent, (k 0 0 (by decide)).trans h.eObject, (k 4 0 (by decide)).trans h.eMany, (k 6 0 (by decide)).trans h.eCode,
    h.maxLen.imp fun m hm => (k 7 0 (by decide)).trans hm, h.eSyntax.imp fun _ => Exists.imp fun _ hm => (k 11 0 (by decide)).trans hm, h.eRange.imp fun _ => Exists.imp fun _ hm => (k 12 0 (by decide)).trans hm,
    var?_below hb globTab (by omega) h.tab, fun i hi => (k 1 i (by decide)).trans (h.words i hi), fun i hi => (k 5 i (by decide)).trans (h.bounds i hi)⟩
theorem Glob.below' {T : TypeId} {er : Nat → Addr} {w w' : World} (h : Glob T er w) (hb : Below w.heap.size w w') : Glob T er w' := h.below hb h.size
theorem Glob.drew {T : TypeId} {er : Nat → Addr} {w : World} (h : Glob T er w) : Glob T er w.drew := ⟨h.size, h.eOp, h.eEvent, h.eObject, h.eMany, h.eCode, h.maxLen, h.eSyntax, h.eRange, h.tab, h.words, h.bounds⟩
theorem Glob.drewN {T : TypeId} {er : Nat → Addr} {w : World} (h : Glob T er w) (q : Nat) : Glob T er (w.drewN q) := ⟨h.size, h.eOp, h.eEvent, h.eObject, h.eMany, h.eCode, h.maxLen, h.eSyntax, h.eRange, h.tab, h.words, h.bounds⟩

/-- A text of these bytes. -/
abbrev tv (l : List UInt8) : Value := .string ⟨l.toArray⟩
abbrev tc (ls : List (List UInt8)) : List Value := ls.map tv

theorem tv_eq (x y : List UInt8) : ((⟨x.toArray⟩ : ByteArray).toList == (⟨y.toArray⟩ : ByteArray).toList) = decide (x = y) := by
  rw [ByteArray.toList_eq, ByteArray.toList_eq]
  by_cases h : x = y
  · subst h; simp
  · rw [decide_eq_false h]; simpa using h

end Go.Proofs.YtcjfcomadcebnaaGreatDoor

/- Package event: Word, Code and what is told of operations, by contracts. -/
namespace Go.Proofs.YtcjfcomadcebnaaGreatDoor
open Go.RowKit Go.Maps Go.WideMaps Go.WideElems Go.ChangeShapes Go.WideShapes



set_option maxHeartbeats 1000000 in
set_option maxRecDepth 100000 in
theorem word_in (t c : Nat) (ht : t < 7) (hc : c < 10) (w : World) (hW : WordsAt w) :
    Calls Tryz.prog 39 #[.int .i64 t, .int .i64 c] w fun e w' => e = .returned (tv (wordL t c)) ∧ w = w' := by
  have h0 := hW (t * 10 + c) (by omega)
  rw [wflat_at t ht c hc, ← wordL_in ht hc] at h0
  generalize wordL t c = x at *
  clear hW
  go_enter Tryz.func39, Tryz.ntmps39
  go_wp2
  go_ret
  exact ⟨rfl, rfl⟩

theorem ret_str {a b : List UInt8} (h : a = b) : Ending.returned (tv a) = .returned (tv b) := by rw [h]

set_option maxRecDepth 100000 in
theorem word_out (t c : Int) (h : t < 0 ∨ 7 ≤ t ∨ c < 0 ∨ 10 ≤ c) (w : World) :
    Calls Tryz.prog 39 #[.int .i64 t, .int .i64 c] w fun e w' => e = .returned (tv (wordL t c)) ∧ w = w' := by
  have h0 := wordL_out h
  rw [h0]
  by_cases h1 : t < 0
  · clear h h0
    go_enter Tryz.func39, Tryz.ntmps39
    go_wp2
    go_ret
    exact ⟨rfl, rfl⟩
  by_cases h2 : 7 ≤ t
  · clear h h0
    go_enter Tryz.func39, Tryz.ntmps39
    go_wp2
    go_ret
    exact ⟨rfl, rfl⟩
  by_cases h3 : c < 0
  · clear h h0
    go_enter Tryz.func39, Tryz.ntmps39
    go_wp2
    go_ret
    exact ⟨rfl, rfl⟩
  have h4 : 10 ≤ c := by omega
  clear h h0
  go_enter Tryz.func39, Tryz.ntmps39
  go_wp2
  go_ret
  exact ⟨rfl, rfl⟩

theorem word_any (t c : Int) (w : World) (hW : WordsAt w) : Calls Tryz.prog 39 #[.int .i64 t, .int .i64 c] w fun e w' => e = .returned (tv (wordL t c)) ∧ w = w' := by
  by_cases h : t < 0 ∨ 7 ≤ t ∨ c < 0 ∨ 10 ≤ c
  · exact word_out t c h w
  · have e1 : t = (t.toNat : Int) := by omega
    have e2 : c = (c.toNat : Int) := by omega
    rw [e1, e2]
    exact word_in t.toNat c.toNat (by omega) (by omega) w hW

/-- What is told of an operation. -/
def ofZ (op : Int) : Int := if op = 1 ∨ op = 2 then 1 else if op = 3 ∨ op = 4 then 2 else if op = 5 ∨ op = 6 then 3 else if op = 7 ∨ op = 8 ∨ op = 9 then 4 else 0
def keyedZ (op : Int) : Bool := op == 7 || op == 8 || op == 9
def valuedZ (op : Int) : Bool := op == 2 || op == 3 || op == 5 || op == 7
def fitsZ (op ret : Int) : Bool := if valuedZ op then ret == 1 else if op == 1 || op == 4 then ret == 3 else if op == 6 || op == 8 || op == 9 then ret == 2 || ret == 3 else false

theorem ten (op : Int) : op = 1 ∨ op = 2 ∨ op = 3 ∨ op = 4 ∨ op = 5 ∨ op = 6 ∨ op = 7 ∨ op = 8 ∨ op = 9 ∨ (op ≠ 1 ∧ op ≠ 2 ∧ op ≠ 3 ∧ op ≠ 4 ∧ op ≠ 5 ∧ op ≠ 6 ∧ op ≠ 7 ∧ op ≠ 8 ∧ op ≠ 9) := by omega

/-- An operation that is none. -/
structure NoOp (op : Int) : Prop where
  h1 : (op == 1) = false
  h2 : (op == 2) = false
  h3 : (op == 3) = false
  h4 : (op == 4) = false
  h5 : (op == 5) = false
  h6 : (op == 6) = false
  h7 : (op == 7) = false
  h8 : (op == 8) = false
  h9 : (op == 9) = false
theorem noOp {op : Int} (h : op ≠ 1 ∧ op ≠ 2 ∧ op ≠ 3 ∧ op ≠ 4 ∧ op ≠ 5 ∧ op ≠ 6 ∧ op ≠ 7 ∧ op ≠ 8 ∧ op ≠ 9) : NoOp op := by
  obtain ⟨h1, h2, h3, h4, h5, h6, h7, h8, h9⟩ := h
  constructor <;> simpa
theorem ofZ_no {op : Int} (h : NoOp op) : ofZ op = 0 := by
  have := h.1; have := h.2; have := h.3; have := h.4; have := h.5; have := h.6; have := h.7; have := h.8; have := h.9
  simp at *
  unfold ofZ
  simp [*]
theorem keyedZ_no {op : Int} (h : NoOp op) : keyedZ op = false := by simp [keyedZ, h.7, h.8, h.9]
theorem valuedZ_no {op : Int} (h : NoOp op) : valuedZ op = false := by simp [valuedZ, h.2, h.3, h.5, h.7]
theorem fitsZ_no {op : Int} (r : Int) (h : NoOp op) : fitsZ op r = false := by simp [fitsZ, valuedZ_no h, h.1, h.4, h.6, h.8, h.9]

set_option maxHeartbeats 1000000 in
set_option maxRecDepth 100000 in
theorem of_any (op : Int) (w : World) : Calls Tryz.prog 97 #[.int .i64 op] w fun e w' => e = .returned (.int .i64 (ofZ op)) ∧ w = w' := by
  rcases ten op with h | h | h | h | h | h | h | h | h | h
  iterate 9
    · subst h
      go_enter Tryz.func97, Tryz.ntmps97
      go_wp2
      go_ret
      exact ⟨rfl, rfl⟩
  · obtain ⟨h1, h2, h3, h4, h5, h6, h7, h8, h9⟩ := noOp h
    have hz := Lib.hid (ofZ_no (noOp h))
    clear h
    go_enter Tryz.func97, Tryz.ntmps97
    go_wp2
    go_ret
    exact ⟨by rw [hz.out]; rfl, rfl⟩

set_option maxHeartbeats 1000000 in
theorem valued_any (op : Int) (w : World) : Calls Tryz.prog 90 #[.int .i64 op] w fun e w' => e = .returned (.bool (valuedZ op)) ∧ w = w' := by
  rcases ten op with h | h | h | h | h | h | h | h | h | h
  iterate 9
    · subst h
      go_enter Tryz.func90, Tryz.ntmps90
      go_wp2
      go_ret
      exact ⟨rfl, rfl⟩
  · obtain ⟨h1, h2, h3, h4, h5, h6, h7, h8, h9⟩ := noOp h
    have hz := Lib.hid (valuedZ_no (noOp h))
    clear h
    go_enter Tryz.func90, Tryz.ntmps90
    go_wp2
    go_ret
    exact ⟨by rw [hz.out]; rfl, rfl⟩

theorem ofZ_keyed (op : Int) : (ofZ op == 4) = keyedZ op := by
  rcases ten op with h | h | h | h | h | h | h | h | h | h
  iterate 9
    · subst h; decide
  · rw [ofZ_no (noOp h), keyedZ_no (noOp h)]; decide

set_option maxRecDepth 100000 in
theorem keyed_any (op : Int) (w : World) : Calls Tryz.prog 89 #[.int .i64 op] w fun e w' => e = .returned (.bool (keyedZ op)) ∧ w = w' := by
  have ho := of_any op w
  have he := ofZ_keyed op
  generalize ofZ op = x at *
  generalize keyedZ op = y at *
  have Ho := Lib.hid ho
  have He := Lib.hid he
  clear ho he
  go_enter Tryz.func89, Tryz.ntmps89
  go_wp2_with (first | (go_at_call 97; refine Ho.out.mono ?_; rintro e w' ⟨rfl, rfl⟩))
  go_ret
  exact ⟨by rw [← He.out]; rfl, rfl⟩

end Go.Proofs.YtcjfcomadcebnaaGreatDoor

/- Print, Number, Words, Silent, Join, by contracts. -/
namespace Go.Proofs.YtcjfcomadcebnaaGreatDoor
open Go.RowKit Go.Maps Go.WideMaps Go.WideElems Go.ChangeShapes Go.WideShapes

variable {T : TypeId} {er : Nat → Addr}

theorem below_drewN {B : Nat} {a w : World} (h : Below B a w) (q : Nat) : Below B a (w.drewN q) := ⟨h.os, h.tape, h.output, h.size, h.block⟩

set_option maxRecDepth 100000 in
theorem print_any (n : Int) (h0 : -9223372036854775808 ≤ n) (h1 : n ≤ 9223372036854775807) (w : World) (hG : Glob T er w) :
    Calls Tryz.prog 40 #[.int .i64 n] w fun e w' => e = .returned (tv (Lib.itoa n)) ∧ Hid (Below w.heap.size w w') := by
  have hi : Calls Tryz.prog 62 #[.int .i64 n] w fun e w' => e = .returned (tv (Lib.itoa n)) ∧ Hid (Below w.heap.size w w') := (Tryz.strconv_Itoa n h0 h1 w hG.tab).mono fun e w' ⟨he, k, os, hw⟩ => ⟨he, by show Below _ _ _; rw [hw]; exact Lib.below_grow _ w (Nat.le_refl _) k os⟩
  have Hi := Lib.hid hi
  clear hi h0 h1 hG
  go_enter Tryz.func40, Tryz.ntmps40
  go_wp2_with (first | (go_at_call 62; refine Hi.out.mono ?_; rintro e w' ⟨rfl, hb⟩))
  go_ret
  exact ⟨rfl, hb⟩

theorem atoi_range {l : List UInt8} {v : Int} (h : Lib.atoiAll l = .ok v) : -9223372036854775808 ≤ v ∧ v ≤ 9223372036854775807 := by
  unfold Lib.atoiAll at h
  split at h
  · cases h
  · rename_i c r
    simp only at h
    split at h
    · cases h
    · cases h
    · rename_i u hu
      split at h
      · cases h
      · split at h
        · cases h
        · rename_i h1 h2
          injection h with h
          subst h
          split <;> rename_i h3
          · omega
          · omega

theorem atoi_ok {l : List UInt8} {v : Int} (hs : l.length ≤ 281474976710656) (ha : Lib.atoiAll l = .ok v) (w : World) : Calls Tryz.prog 123 #[tv l] w fun e w' => e = .returned (.tuple #[.int .i64 v, .nilIface]) ∧ Hid (Below w.heap.size w w') := by
  have hsz : (⟨l.toArray⟩ : ByteArray).size = l.length := by simp [ByteArray.size]
  have hdl : (⟨l.toArray⟩ : ByteArray).data.toList = l := by simp
  refine (Tryz.strconv_Atoi_ok ⟨l.toArray⟩ (by rw [hsz]; omega) v (by rw [hdl]; exact ha) w).mono ?_
  rintro e w' ⟨he, hw | ⟨t, hw⟩⟩
  · exact ⟨he, by rw [hw]; exact Below.refl _ _⟩
  · exact ⟨he, by rw [hw]; exact Lib.bytesWorld_below w 5 t⟩
theorem atoi_bad {l : List UInt8} (hs : l.length ≤ 281474976710656) (ha : ∀ v, Lib.atoiAll l ≠ .ok v) (w : World) (hG : Glob T er w) : Calls Tryz.prog 123 #[tv l] w fun e w' => ∃ (v : Int) (N : Nat), e = .returned (.tuple #[.int .i64 v, .iface 198 (.pointer (some ⟨N, 0, none⟩))]) ∧ Hid (Below w.heap.size w w') := by
  have hsz : (⟨l.toArray⟩ : ByteArray).size = l.length := by simp [ByteArray.size]
  have hdl : (⟨l.toArray⟩ : ByteArray).data.toList = l := by simp
  obtain ⟨t4, p4, h4⟩ := hG.eSyntax
  obtain ⟨t5, p5, h5⟩ := hG.eRange
  cases hc : Lib.atoiAll l with
  | ok v => exact absurd hc (ha v)
  | range =>
    refine (Tryz.strconv_Atoi_range ⟨l.toArray⟩ (by rw [hsz]; exact hs) (by rw [hdl]; exact hc) _ w h5 (.inr ⟨_, _, rfl⟩)).mono ?_
    rintro e w' ⟨N, he, _, _, hb⟩
    exact ⟨_, N, he, hb⟩
  | _ =>
    refine (Any.strconv_Atoi_syntax Tryz.laysC172 ⟨l.toArray⟩ (by rw [hsz]; exact hs) (by rw [hdl]; exact hc) _ w h4 (.inr ⟨_, _, rfl⟩)).mono ?_
    rintro e w' ⟨N, he, _, _, hb⟩
    exact ⟨_, N, he, hb⟩

end Go.Proofs.YtcjfcomadcebnaaGreatDoor

/- The states of objects, plainly: numbers, queues' values, maps' keys and values, and the texts that tell them. -/
namespace Go.Proofs.YtcjfcomadcebnaaGreatDoor
open Go.RowKit

theorem dec_bytes (u : Nat) : ∀ c ∈ Lib.decDigits u, 48 ≤ c.toNat ∧ c.toNat ≤ 57 := by
  induction u using Nat.strongRecOn with
  | ind u ih =>
    by_cases hs : u < 10
    · rw [Lib.decDigits, dif_pos hs]
      intro c hc
      simp only [List.mem_singleton] at hc
      subst hc
      have := digit_nat u hs
      omega
    · rw [Lib.decDigits, dif_neg hs]
      intro c hc
      rcases List.mem_append.1 hc with h | h
      · exact ih _ (by omega) c h
      · simp only [List.mem_singleton] at h
        subst h
        have := digit_nat (u % 10) (by omega)
        omega
theorem itoa_no (n : Int) {c : UInt8} (hc : c.toNat < 45 ∨ 57 < c.toNat) : c ∉ Lib.itoa n := by
  intro h
  unfold Lib.itoa at h
  split at h
  · rcases List.mem_cons.1 h with h | h
    · subst h; revert hc; decide
    · have := dec_bytes _ c h; omega
  · have := dec_bytes _ c h; omega
theorem itoa_32 (n : Int) : (32 : UInt8) ∉ Lib.itoa n := itoa_no n (.inl (by decide))
theorem itoa_58 (n : Int) : (58 : UInt8) ∉ Lib.itoa n := itoa_no n (.inr (by decide))
theorem itoa_ne (n : Int) : Lib.itoa n ≠ [] := by
  unfold Lib.itoa
  split
  · simp
  · obtain ⟨d, r, h, _⟩ := dec_head n.toNat
    rw [h]; simp

theorem ib_miss (c : UInt8) : ∀ x : List UInt8, c ∉ x → Lib.indexByte x c = -1
  | [], _ => rfl
  | b :: x, h => by
    have h1 : b ≠ c := fun e => h (by simp [e])
    have h2 : c ∉ x := fun e => h (by simp [e])
    simp [Lib.indexByte, h1, ib_miss c x h2]
theorem ib_hit (c : UInt8) (y : List UInt8) : ∀ x : List UInt8, c ∉ x → Lib.indexByte (x ++ c :: y) c = x.length
  | [], _ => by simp [Lib.indexByte]
  | b :: x, h => by
    have h1 : b ≠ c := fun e => h (by simp [e])
    have h2 : c ∉ x := fun e => h (by simp [e])
    have := ib_hit c y x h2
    simp only [List.cons_append, Lib.indexByte, beq_iff_eq, h1, if_false, this, List.length_cons]
    rw [if_neg (by omega)]; omega

/-- A map's item. -/
def item (p : Int × Int) : List UInt8 := Lib.itoa p.1 ++ 58 :: Lib.itoa p.2
/-- What a map has, as a text. -/
def mtext : List (Int × Int) → List UInt8
  | [] => []
  | p :: l => 32 :: (item p ++ mtext l)
/-- What a queue has, as a text. -/
def qtext : List Int → List UInt8
  | [] => []
  | v :: l => 32 :: (Lib.itoa v ++ qtext l)

theorem item_32 (p : Int × Int) : (32 : UInt8) ∉ item p := by
  unfold item
  intro h
  rcases List.mem_append.1 h with h | h
  · exact itoa_32 _ h
  · rcases List.mem_cons.1 h with h | h
    · exact absurd h (by decide)
    · exact itoa_32 _ h
theorem mtext_shape : ∀ l : List (Int × Int), mtext l = [] ∨ ∃ r, mtext l = 32 :: r
  | [] => .inl rfl
  | _ :: _ => .inr ⟨_, rfl⟩
theorem qtext_shape : ∀ l : List Int, qtext l = [] ∨ ∃ r, qtext l = 32 :: r
  | [] => .inl rfl
  | _ :: _ => .inr ⟨_, rfl⟩
theorem mtext_app : ∀ a b : List (Int × Int), mtext (a ++ b) = mtext a ++ mtext b
  | [], _ => rfl
  | p :: a, b => by simp [mtext, mtext_app a b]
theorem qtext_app : ∀ a b : List Int, qtext (a ++ b) = qtext a ++ qtext b
  | [], _ => rfl
  | p :: a, b => by simp [qtext, qtext_app a b]

/-- Where the first item of a text ends. -/
def iendL (s : List UInt8) : Nat := if 0 ≤ Lib.indexByte (s.drop 1) 32 then (Lib.indexByte (s.drop 1) 32).toNat + 1 else s.length
theorem iend_item {it rest : List UInt8} (h : (32 : UInt8) ∉ it) (hr : rest = [] ∨ ∃ r, rest = 32 :: r) : iendL (32 :: (it ++ rest)) = it.length + 1 := by
  unfold iendL
  show (if 0 ≤ Lib.indexByte (it ++ rest) 32 then _ else _) = _
  rcases hr with rfl | ⟨r, rfl⟩
  · have : Lib.indexByte (it ++ []) 32 = -1 := by rw [List.append_nil]; exact ib_miss 32 it h
    rw [this, if_neg (by decide)]; simp
  · have e : Lib.indexByte (it ++ 32 :: r) 32 = it.length := ib_hit 32 r it h
    show (if 0 ≤ Lib.indexByte (it ++ 32 :: r) 32 then (Lib.indexByte (it ++ 32 :: r) 32).toNat + 1 else _) = _
    rw [e, if_pos (by omega)]; simp

/-- A map's value at a key. -/
def mget (k : Int) : List (Int × Int) → Option Int
  | [] => none
  | (a, v) :: t => if a < k then mget k t else if a = k then some v else none
/-- A map with another value at a key. -/
def mput (k x : Int) : List (Int × Int) → List (Int × Int)
  | [] => [(k, x)]
  | (a, v) :: t => if a < k then (a, v) :: mput k x t else if a = k then (k, x) :: t else (k, x) :: (a, v) :: t
/-- A map without a key. -/
def mdel (k : Int) : List (Int × Int) → List (Int × Int)
  | [] => []
  | (a, v) :: t => if a < k then (a, v) :: mdel k t else if a = k then t else (a, v) :: t
/-- A map cut at a key. -/
def spl (k : Int) : List (Int × Int) → List (Int × Int) × Option Int × List (Int × Int)
  | [] => ([], none, [])
  | (a, v) :: t => if a < k then ((a, v) :: (spl k t).1, (spl k t).2) else if a = k then ([], some v, t) else ([], none, (a, v) :: t)

theorem mget_spl (k : Int) : ∀ l, mget k l = (spl k l).2.1
  | [] => rfl
  | (a, v) :: t => by
    unfold mget spl
    split
    · exact mget_spl k t
    · split <;> rfl
theorem mput_spl (k x : Int) : ∀ l, mput k x l = (spl k l).1 ++ (k, x) :: (spl k l).2.2
  | [] => rfl
  | (a, v) :: t => by
    unfold mput spl
    split
    · simp [mput_spl k x t]
    · split <;> rfl
theorem mdel_spl (k : Int) : ∀ l, mdel k l = (spl k l).1 ++ (spl k l).2.2
  | [] => rfl
  | (a, v) :: t => by
    unfold mdel spl
    split
    · simp [mdel_spl k t]
    · split <;> rfl
theorem spl_pre (k : Int) : ∀ (a b : List (Int × Int)), (∀ p ∈ a, p.1 < k) → spl k (a ++ b) = (a ++ (spl k b).1, (spl k b).2)
  | [], _, _ => rfl
  | (c, v) :: a, b, h => by
    have h1 : c < k := h (c, v) (by simp)
    have := spl_pre k a b (fun p hp => h p (by simp [hp]))
    simp only [List.cons_append]
    rw [spl, if_pos h1, this]

/-- Keys rise. -/
def Rises (l : List (Int × Int)) : Prop := l.Pairwise (fun p q => p.1 < q.1)
theorem mget_lt {k : Int} : ∀ {l : List (Int × Int)}, (∀ p ∈ l, k < p.1) → mget k l = none
  | [], _ => rfl
  | (a, v) :: t, h => by
    have : k < a := h (a, v) (by simp)
    unfold mget
    rw [if_neg (by omega), if_neg (by omega)]
theorem mget_put (j k x : Int) : ∀ l, mget j (mput k x l) = if j = k then some x else mget j l
  | [] => by
    unfold mput mget mget
    by_cases h : j = k
    · subst h; simp
    · rw [if_neg h]
      split
      · rfl
      · rw [if_neg (by omega)]
  | (a, v) :: t => by
    have ih := mget_put j k x t
    unfold mput
    by_cases h1 : a < k
    · rw [if_pos h1]
      unfold mget
      by_cases h2 : a < j
      · rw [if_pos h2, if_pos h2, ih]
      · rw [if_neg h2, if_neg h2, if_neg (show ¬ j = k by omega)]
    · rw [if_neg h1]
      by_cases h2 : a = k
      · rw [if_pos h2]
        subst h2
        unfold mget
        by_cases h3 : j = a
        · subst h3; simp
        · rw [if_neg h3]
          by_cases h4 : a < j
          · rw [if_pos h4, if_pos h4]
          · rw [if_neg h4, if_neg h4, if_neg (show ¬ a = j by omega), if_neg (show ¬ a = j by omega)]
      · rw [if_neg h2]
        conv => lhs; unfold mget
        by_cases h3 : j = k
        · subst h3; simp
        · rw [if_neg h3]
          by_cases h4 : k < j
          · rw [if_pos h4]
          · rw [if_neg h4, if_neg (show ¬ k = j by omega)]
            unfold mget
            rw [if_neg (by omega), if_neg (by omega)]
theorem mget_del (j k : Int) : ∀ l, Rises l → mget j (mdel k l) = if j = k then none else mget j l
  | [], _ => by unfold mdel mget; simp
  | (a, v) :: t, h => by
    have hp := List.pairwise_cons.1 h
    have ih := mget_del j k t hp.2
    unfold mdel
    by_cases h1 : a < k
    · rw [if_pos h1]
      unfold mget
      by_cases h2 : a < j
      · rw [if_pos h2, if_pos h2, ih]
      · rw [if_neg h2, if_neg h2, if_neg (show ¬ j = k by omega)]
    · rw [if_neg h1]
      by_cases h2 : a = k
      · rw [if_pos h2]
        subst h2
        by_cases h3 : j = a
        · subst h3
          rw [if_pos rfl]
          exact mget_lt (fun p hp' => hp.1 p hp')
        · rw [if_neg h3]
          conv => rhs; unfold mget
          by_cases h4 : a < j
          · rw [if_pos h4]
          · rw [if_neg h4, if_neg (show ¬ a = j by omega)]
            exact mget_lt (fun p hp' => by have := hp.1 p hp'; simp at this; omega)
      · rw [if_neg h2]
        by_cases h3 : j = k
        · subst h3
          rw [if_pos rfl]
          unfold mget
          rw [if_neg h1, if_neg h2]
        · rw [if_neg h3]
theorem mput_mem {k x : Int} {p : Int × Int} : ∀ {l : List (Int × Int)}, p ∈ mput k x l → p = (k, x) ∨ p ∈ l
  | [], h => by unfold mput at h; simp at h; exact .inl h
  | (a, v) :: t, h => by
    unfold mput at h
    split at h
    · rcases List.mem_cons.1 h with h | h
      · right; simp [h]
      · rcases mput_mem h with h | h
        · exact .inl h
        · right; simp [h]
    · split at h
      · rcases List.mem_cons.1 h with h | h
        · exact .inl h
        · right; simp [h]
      · rcases List.mem_cons.1 h with h | h
        · exact .inl h
        · right; exact h
theorem mdel_mem {k : Int} {p : Int × Int} : ∀ {l : List (Int × Int)}, p ∈ mdel k l → p ∈ l
  | [], h => by unfold mdel at h; exact h
  | (a, v) :: t, h => by
    unfold mdel at h
    split at h
    · rcases List.mem_cons.1 h with h | h
      · simp [h]
      · have := mdel_mem h; simp [this]
    · split at h
      · simp [h]
      · exact h
theorem mput_rises {k x : Int} : ∀ {l : List (Int × Int)}, Rises l → Rises (mput k x l)
  | [], _ => by unfold mput Rises; simp
  | (a, v) :: t, h => by
    have hp := List.pairwise_cons.1 h
    unfold mput
    split
    · rename_i h1
      refine List.pairwise_cons.2 ⟨fun p hm => ?_, mput_rises hp.2⟩
      rcases mput_mem hm with rfl | hm
      · exact h1
      · exact hp.1 p hm
    · rename_i h1
      split
      · rename_i h2
        subst h2
        exact List.pairwise_cons.2 ⟨hp.1, hp.2⟩
      · rename_i h2
        refine List.pairwise_cons.2 ⟨fun p hm => ?_, h⟩
        rcases List.mem_cons.1 hm with rfl | hm
        · show k < a; omega
        · have := hp.1 p hm; simp at this; show k < p.1; omega
theorem mdel_rises {k : Int} : ∀ {l : List (Int × Int)}, Rises l → Rises (mdel k l)
  | [], h => h
  | (a, v) :: t, h => by
    have hp := List.pairwise_cons.1 h
    unfold mdel
    split
    · exact List.pairwise_cons.2 ⟨fun p hm => hp.1 p (mdel_mem hm), mdel_rises hp.2⟩
    · split
      · exact hp.2
      · exact h
theorem mget_head {k : Int} {v : Int} {t : List (Int × Int)} : mget k ((k, v) :: t) = some v := by unfold mget; simp
/-- What is told at all keys tells a map. -/
theorem rises_ext : ∀ {l m : List (Int × Int)}, Rises l → Rises m → (∀ k, mget k l = mget k m) → l = m
  | [], [], _, _, _ => rfl
  | [], (b, y) :: m, _, _, h => by have := h b; rw [mget_head] at this; cases this
  | (a, x) :: l, [], _, _, h => by have := h a; rw [mget_head] at this; cases this
  | (a, x) :: l, (b, y) :: m, hl, hm, h => by
    have pl := List.pairwise_cons.1 hl
    have pm := List.pairwise_cons.1 hm
    have hab : a = b := by
      rcases Int.lt_trichotomy a b with h1 | h1 | h1
      · have := h a
        rw [mget_head, mget_lt (fun p hp => by
          rcases List.mem_cons.1 hp with rfl | hp
          · exact h1
          · have := pm.1 p hp; simp at this; omega)] at this
        cases this
      · exact h1
      · have := h b
        rw [mget_head, mget_lt (fun p hp => by
          rcases List.mem_cons.1 hp with rfl | hp
          · exact h1
          · have := pl.1 p hp; simp at this; omega)] at this
        cases this
    subst hab
    have hx : x = y := by have := h a; rw [mget_head, mget_head] at this; exact Option.some.inj this
    subst hx
    rw [rises_ext pl.2 pm.2 (fun k => by
      by_cases hk : a < k
      · have := h k
        unfold mget at this
        rw [if_pos hk, if_pos hk] at this
        exact this
      · rw [mget_lt (fun p hp => by have := pl.1 p hp; simp at this; omega), mget_lt (fun p hp => by have := pm.1 p hp; simp at this; omega)])]

/-- Keys within 0 and 1000 that rise are 1001 at most. -/
theorem rises_len : ∀ {l : List (Int × Int)} {b : Int}, Rises l → (∀ p ∈ l, b ≤ p.1 ∧ p.1 ≤ 1000) → 0 ≤ b → b ≤ 1001 → (l.length : Int) ≤ 1001 - b
  | [], b, _, _, h0, h1 => by simp; omega
  | (a, v) :: t, b, h, hm, h0, h1 => by
    have hp := List.pairwise_cons.1 h
    have ha := hm (a, v) (by simp)
    simp at ha
    have := rises_len (b := a + 1) hp.2 (fun p hp' => ⟨by have := hp.1 p hp'; simp at this; omega, (hm p (by simp [hp'])).2⟩) (by omega) (by omega)
    simp; omega
theorem itoa_len (n : Int) (h0 : -9223372036854775808 ≤ n) (h1 : n ≤ 9223372036854775807) : (Lib.itoa n).length ≤ 21 := Lib.itoa_length_le n h0 h1
theorem mtext_len : ∀ {l : List (Int × Int)}, (∀ p ∈ l, (-9223372036854775808 ≤ p.1 ∧ p.1 ≤ 9223372036854775807) ∧ (-9223372036854775808 ≤ p.2 ∧ p.2 ≤ 9223372036854775807)) → (mtext l).length ≤ 44 * l.length
  | [], _ => by simp [mtext]
  | p :: l, h => by
    have hp := h p (by simp)
    have := mtext_len (l := l) (fun q hq => h q (by simp [hq]))
    have a := itoa_len p.1 hp.1.1 hp.1.2
    have b := itoa_len p.2 hp.2.1 hp.2.2
    simp [mtext, item]; omega
theorem qtext_len : ∀ {l : List Int}, (∀ p ∈ l, -9223372036854775808 ≤ p ∧ p ≤ 9223372036854775807) → (qtext l).length ≤ 22 * l.length
  | [], _ => by simp [qtext]
  | p :: l, h => by
    have hp := h p (by simp)
    have := qtext_len (l := l) (fun q hq => h q (by simp [hq]))
    have a := itoa_len p hp.1 hp.2
    simp [qtext]; omega
end Go.Proofs.YtcjfcomadcebnaaGreatDoor

/- A state of an object and what an operation does to it, plainly. -/
namespace Go.Proofs.YtcjfcomadcebnaaGreatDoor
open Go.RowKit

/-- A state. -/
structure PS where
  kind : Int
  n : Int
  vals : List Int
  kvs : List (Int × Int)
  deriving DecidableEq
/-- What a queue or a map has, as a text. -/
def PS.text (s : PS) : List UInt8 := qtext s.vals ++ mtext s.kvs
/-- Its value. -/
abbrev PS.agg (s : PS) : Value := .agg #[.int .i64 s.kind, .int .i64 s.n, tv s.text]
abbrev PS.zero : PS := ⟨0, 0, [], []⟩

/-- A number within a bound, either way. -/
def near (n b : Int) : Prop := -b ≤ n ∧ n ≤ b
instance (n b : Int) : Decidable (near n b) := inferInstanceAs (Decidable (_ ∧ _))

/-- What holds of every state. -/
structure PS.Ok (s : PS) (b : Nat) : Prop where
  kind : 1 ≤ s.kind ∧ s.kind ≤ 4
  reg : s.kind = 1 → near s.n 1000000000
  cnt : s.kind = 2 → near s.n 1000000000000000
  num : s.kind = 3 ∨ s.kind = 4 → s.n = 0
  vs : s.kind ≠ 3 → s.vals = []
  ks : s.kind ≠ 4 → s.kvs = []
  vb : ∀ v ∈ s.vals, near v 1000000000
  kb : ∀ p ∈ s.kvs, (0 ≤ p.1 ∧ p.1 ≤ 1000) ∧ near p.2 1000000000
  rises : Rises s.kvs
  len : s.vals.length ≤ b

/-- Whether a call may have that key and that value. -/
def fitsB (op key val : Int) : Bool := decide (0 ≤ key) && decide (key ≤ 1000) && decide (near val 1000000000) && (key == 0 || keyedZ op) && (val == 0 || valuedZ op)
/-- What an operation does: 0 no such operation, 1 no such event; or the next state, the answer and its value. -/
def doR (s : PS) (op key val : Int) : Except Nat (PS × Int × Int) :=
  if ofZ op ≠ s.kind then .error 0
  else if fitsB op key val = false then .error 1
  else if s.kind = 2 ∧ ¬ near (s.n + val) 1000000000000000 then .error 1
  else if op = 1 ∨ op = 4 then .ok (s, 3, s.n)
  else if op = 2 then .ok ({ s with n := val }, 1, 0)
  else if op = 3 then .ok ({ s with n := s.n + val }, 1, 0)
  else if op = 5 then .ok ({ s with vals := s.vals ++ [val] }, 1, 0)
  else if op = 6 then (match s.vals with | [] => .ok (s, 2, 0) | v :: t => .ok ({ s with vals := t }, 3, v))
  else if op = 7 then .ok ({ s with kvs := mput key val s.kvs }, 1, 0)
  else if op = 8 then (match mget key s.kvs with | none => .ok (s, 2, 0) | some v => .ok (s, 3, v))
  else (match mget key s.kvs with | none => .ok (s, 2, 0) | some v => .ok ({ s with kvs := mdel key s.kvs }, 3, v))

theorem mdel_none {k : Int} : ∀ {l : List (Int × Int)}, mget k l = none → mdel k l = l
  | [], _ => rfl
  | (a, v) :: t, h => by
    unfold mget at h
    unfold mdel
    split at h
    · rename_i h1; rw [if_pos h1, mdel_none h]
    · rename_i h1
      rw [if_neg h1]
      split at h
      · cases h
      · rename_i h2; rw [if_neg h2]

/-- The kind of object that an operation is of. -/
theorem of_kinds (op : Int) : (ofZ op = 1 → op = 1 ∨ op = 2) ∧ (ofZ op = 2 → op = 3 ∨ op = 4) ∧ (ofZ op = 3 → op = 5 ∨ op = 6) ∧ (ofZ op = 4 → op = 7 ∨ op = 8 ∨ op = 9) := by
  unfold ofZ
  refine ⟨?_, ?_, ?_, ?_⟩
  all_goals
    intro h
    split at h
    · first | assumption | (exfalso; revert h; decide)
    split at h
    · first | assumption | (exfalso; revert h; decide)
    split at h
    · first | assumption | (exfalso; revert h; decide)
    split at h
    · first | assumption | (exfalso; revert h; decide)
    · exfalso; revert h; decide

theorem PS.Ok.next {s : PS} {b : Nat} (h : s.Ok b) {op key val : Int} {t : PS} {r g : Int} (hd : doR s op key val = .ok (t, r, g)) : t.Ok (b + 1) ∧ t.kind = s.kind := by
  unfold doR at hd
  split at hd
  · cases hd
  rename_i h1
  have h1 : ofZ op = s.kind := by simpa using h1
  split at hd
  · cases hd
  rename_i h2
  have hf : fitsB op key val = true := by simpa using h2
  simp only [fitsB, Bool.and_eq_true, decide_eq_true_eq] at hf
  split at hd
  · cases hd
  rename_i h3
  have hself : s.Ok (b + 1) := ⟨h.kind, h.reg, h.cnt, h.num, h.vs, h.ks, h.vb, h.kb, h.rises, Nat.le_succ_of_le h.len⟩
  obtain ⟨k1, k2, k3, k4⟩ := of_kinds op
  split at hd
  · cases hd; exact ⟨hself, rfl⟩
  split at hd
  · rename_i h5
    cases hd
    subst h5
    have hk : s.kind = 1 := h1.symm
    exact ⟨⟨h.kind, fun _ => hf.1.1.2, fun e => by simp [hk] at e, fun e => by simp [hk] at e, h.vs, h.ks, h.vb, h.kb, h.rises, Nat.le_succ_of_le h.len⟩, rfl⟩
  split at hd
  · rename_i h5
    cases hd
    subst h5
    have hk : s.kind = 2 := h1.symm
    refine ⟨⟨h.kind, fun e => by simp [hk] at e, fun _ => ?_, fun e => by simp [hk] at e, h.vs, h.ks, h.vb, h.kb, h.rises, Nat.le_succ_of_le h.len⟩, rfl⟩
    exact Decidable.byContradiction (fun hn => h3 ⟨hk, hn⟩)
  split at hd
  · rename_i h5
    cases hd
    subst h5
    have hk : s.kind = 3 := h1.symm
    refine ⟨⟨h.kind, h.reg, h.cnt, h.num, fun e => absurd hk e, h.ks, fun v hv => ?_, h.kb, h.rises, ?_⟩, rfl⟩
    · rcases List.mem_append.1 hv with hv | hv
      · exact h.vb v hv
      · simp at hv; subst hv; exact hf.1.1.2
    · have := h.len; simp; omega
  split at hd
  · rename_i h5
    subst h5
    have hk : s.kind = 3 := h1.symm
    split at hd
    · cases hd; exact ⟨hself, rfl⟩
    · rename_i v t hv
      cases hd
      refine ⟨⟨h.kind, h.reg, h.cnt, h.num, fun e => absurd hk e, h.ks, fun v hv' => h.vb v (by rw [hv]; simp [hv']), h.kb, h.rises, ?_⟩, rfl⟩
      have := h.len; rw [hv] at this; simp at this ⊢; omega
  split at hd
  · rename_i h5
    cases hd
    subst h5
    have hk : s.kind = 4 := h1.symm
    refine ⟨⟨h.kind, h.reg, h.cnt, h.num, h.vs, fun e => absurd hk e, h.vb, fun p hp => ?_, mput_rises h.rises, Nat.le_succ_of_le h.len⟩, rfl⟩
    rcases mput_mem hp with rfl | hp
    · exact ⟨⟨hf.1.1.1.1, hf.1.1.1.2⟩, hf.1.1.2⟩
    · exact h.kb p hp
  split at hd
  · split at hd
    · cases hd; exact ⟨hself, rfl⟩
    · cases hd; exact ⟨hself, rfl⟩
  · split at hd
    · cases hd; exact ⟨hself, rfl⟩
    · cases hd
      rename_i n1 n2 n3 n4 n5 n6 n7 v hv
      have hk4 : s.kind ≠ 4 → s.kvs = [] := h.ks
      refine ⟨⟨h.kind, h.reg, h.cnt, h.num, h.vs, fun e => ?_, h.vb, fun p hp => h.kb p (mdel_mem hp), mdel_rises h.rises, Nat.le_succ_of_le h.len⟩, rfl⟩
      show mdel key s.kvs = []
      rw [hk4 e]; rfl
end Go.Proofs.YtcjfcomadcebnaaGreatDoor

/- Plainly: a table's words and their codes. -/
namespace Go.Proofs.YtcjfcomadcebnaaGreatDoor

/-- A word of a table has its code. -/
theorem code_word : ∀ t : Nat, t < 7 → ∀ c : Nat, c < 10 → (wrow t).getD c [] ≠ [] → firstOf ((wrow t).getD c []) 0 (wrow t) = some c := by decide
theorem wordL_code {t c : Int} (h : wordL t c ≠ []) : ∃ k : Nat, c = k ∧ codeL t (wordL t c) = some k := by
  unfold wordL at h ⊢
  by_cases hr : 0 ≤ t ∧ t < 7 ∧ 0 ≤ c ∧ c < 10
  · rw [if_pos hr] at h ⊢
    refine ⟨c.toNat, by omega, ?_⟩
    unfold codeL
    rw [if_pos ⟨h, hr.1, hr.2.1⟩]
    exact code_word t.toNat (by omega) c.toNat (by omega) h
  · rw [if_neg hr] at h; exact absurd rfl h
theorem firstOf_at {l : List UInt8} : ∀ {xs : List (List UInt8)} {k d : Nat}, firstOf l k xs = some d → k ≤ d ∧ d < k + xs.length ∧ xs.getD (d - k) [] = l
  | [], _, _, h => by cases h
  | x :: xs, k, d, h => by
    unfold firstOf at h
    split at h
    · rename_i hx
      cases h
      simp [hx]
    · obtain ⟨h1, h2, h3⟩ := firstOf_at h
      refine ⟨by omega, by simp; omega, ?_⟩
      obtain ⟨j, hj⟩ : ∃ j, d - k = j + 1 := ⟨d - k - 1, by omega⟩
      rw [hj, List.getD_cons_succ, ← h3]
      congr 1
      omega
theorem codeL_word {t : Int} {l : List UInt8} {d : Nat} (h : codeL t l = some d) : wordL t d = l := by
  unfold codeL at h
  split at h
  · rename_i hr
    obtain ⟨h1, h2, h3⟩ := firstOf_at h
    have hlen := wrow_len t.toNat (by omega)
    unfold wordL
    rw [if_pos ⟨hr.2.1, hr.2.2, by omega, by omega⟩, Int.toNat_natCast]
    simpa using h3
  · cases h
end Go.Proofs.YtcjfcomadcebnaaGreatDoor

/- The state that a text tells, plainly. -/
namespace Go.Proofs.YtcjfcomadcebnaaGreatDoor
open Go.RowKit

/-- A text cut at each blank. -/
def cutsL : List UInt8 → List (List UInt8)
  | [] => [[]]
  | c :: t => if c = 32 then [] :: cutsL t else match cutsL t with
    | [] => [[c]]
    | p :: r => (c :: p) :: r
theorem cuts_ne : ∀ l, cutsL l ≠ []
  | [] => by simp [cutsL]
  | c :: t => by
    unfold cutsL
    split
    · simp
    · split <;> simp
theorem cuts_last : ∀ x : List UInt8, (32 : UInt8) ∉ x → cutsL x = [x]
  | [], _ => rfl
  | c :: x, h => by
    have h1 : c ≠ 32 := fun e => h (by simp [e])
    have h2 : (32 : UInt8) ∉ x := fun e => h (by simp [e])
    unfold cutsL
    rw [if_neg h1, cuts_last x h2]
theorem cuts_more (y : List UInt8) : ∀ x : List UInt8, (32 : UInt8) ∉ x → cutsL (x ++ 32 :: y) = x :: cutsL y
  | [], _ => by simp [cutsL]
  | c :: x, h => by
    have h1 : c ≠ 32 := fun e => h (by simp [e])
    have h2 : (32 : UInt8) ∉ x := fun e => h (by simp [e])
    rw [List.cons_append, cutsL, if_neg h1, cuts_more y x h2]

/-- What an index tells of a text. -/
theorem ib_split {c : UInt8} : ∀ {s : List UInt8} {i : Nat}, Lib.indexByte s c = i → c ∉ s.take i ∧ s = s.take i ++ c :: s.drop (i + 1) ∧ i < s.length
  | [], i, h => by simp [Lib.indexByte] at h
  | b :: s, i, h => by
    unfold Lib.indexByte at h
    split at h
    · rename_i hb
      have hb' : b = c := by simpa using hb
      have hi : i = 0 := by omega
      subst hi; subst hb'
      simp
    · rename_i hb
      have hb' : b ≠ c := by simpa using hb
      split at h
      · omega
      · rename_i hn
        have hge := Lib.indexByte_ge s c
        obtain ⟨j, hj⟩ : ∃ j : Nat, Lib.indexByte s c = j := ⟨(Lib.indexByte s c).toNat, by
          have : Lib.indexByte s c ≠ -1 := by simpa using hn
          omega⟩
        obtain ⟨h1, h2, h3⟩ := ib_split hj
        have hi : i = j + 1 := by omega
        subst hi
        refine ⟨?_, ?_, by simp; omega⟩
        · simp only [List.take_succ_cons, List.mem_cons, not_or]
          exact ⟨fun e => hb' e.symm, h1⟩
        · simp only [List.take_succ_cons, List.drop_succ_cons, List.cons_append, List.cons.injEq, true_and]
          exact h2
theorem ib_none {c : UInt8} : ∀ {s : List UInt8}, Lib.indexByte s c < 0 → c ∉ s
  | [], _ => by simp
  | b :: s, h => by
    unfold Lib.indexByte at h
    split at h
    · omega
    · rename_i hb
      have hb' : b ≠ c := by simpa using hb
      split at h
      · rename_i hn
        have hn' : Lib.indexByte s c = -1 := by simpa using hn
        have := ib_none (s := s) (c := c) (by omega)
        simp only [List.mem_cons, not_or]
        exact ⟨fun e => hb' e.symm, this⟩
      · rename_i hn
        have hge := Lib.indexByte_ge s c
        have : Lib.indexByte s c ≠ -1 := by simpa using hn
        omega

/-- The number whose numeral a text is. -/
def prn (l : List UInt8) : Option Int := match Lib.atoiAll l with
  | .ok v => if Lib.itoa v = l then some v else none
  | _ => none
theorem prn_itoa {v : Int} (h : -9223372036854775808 ≤ v ∧ v ≤ 9223372036854775807) : prn (Lib.itoa v) = some v := by
  unfold prn
  rw [atoi_itoa v h.1 h.2]
  simp
theorem prn_some {l : List UInt8} {v : Int} (h : prn l = some v) : Lib.itoa v = l := by
  unfold prn at h
  split at h
  · split at h
    · cases h; assumption
    · cases h
  · cases h

/-- A map's item, read. -/
def pairR (it : List UInt8) : Option (Int × Int) :=
  if 0 ≤ Lib.indexByte it 58 then
    match prn (it.take (Lib.indexByte it 58).toNat), prn (it.drop ((Lib.indexByte it 58).toNat + 1)) with
    | some k, some v => some (k, v)
    | _, _ => none
  else none
theorem pairR_some {it : List UInt8} {p : Int × Int} (h : pairR it = some p) : it = item p := by
  unfold pairR at h
  split at h
  · rename_i h0
    obtain ⟨i, hi⟩ : ∃ i : Nat, Lib.indexByte it 58 = i := ⟨(Lib.indexByte it 58).toNat, by omega⟩
    obtain ⟨_, h2, _⟩ := ib_split hi
    rw [hi] at h
    simp only [Int.toNat_natCast] at h
    split at h
    · rename_i k v hk hv
      cases h
      unfold item
      rw [prn_some hk, prn_some hv]
      exact h2
    · cases h
  · cases h
theorem pairR_item {p : Int × Int} (h1 : -9223372036854775808 ≤ p.1 ∧ p.1 ≤ 9223372036854775807) (h2 : -9223372036854775808 ≤ p.2 ∧ p.2 ≤ 9223372036854775807) : pairR (item p) = some p := by
  unfold pairR
  have hi : Lib.indexByte (item p) 58 = (Lib.itoa p.1).length := ib_hit 58 _ _ (itoa_58 p.1)
  rw [hi, if_pos (by omega), Int.toNat_natCast]
  have e1 : (item p).take (Lib.itoa p.1).length = Lib.itoa p.1 := by simp [item]
  have e2 : (item p).drop ((Lib.itoa p.1).length + 1) = Lib.itoa p.2 := by unfold item; rw [List.drop_append]; simp
  rw [e1, e2, prn_itoa h1, prn_itoa h2]

/-- A key that rises behind the one ahead. -/
def above (prev : Option Int) (k : Int) : Bool := match prev with | none => true | some q => decide (q < k)
/-- A map's items, read one behind the other; the key ahead. -/
def kvsR : Option Int → List (List UInt8) → Option (List (Int × Int))
  | _, [] => some []
  | prev, it :: r => match pairR it with
    | none => none
    | some (k, v) => if above prev k = true then (kvsR (some k) r).map ((k, v) :: ·) else none
/-- A queue's items, read. -/
def valsR : List (List UInt8) → Option (List Int)
  | [] => some []
  | it :: r => match prn it with
    | none => none
    | some v => (valsR r).map (v :: ·)
def nearB (n b : Int) : Bool := decide (near n b)
def inKv (p : Int × Int) : Bool := decide (0 ≤ p.1) && decide (p.1 ≤ 1000) && nearB p.2 1000000000

/-- The items of a text: none, or those behind its blank. -/
def itemsOf (s : List UInt8) : List (List UInt8) := if s = [] then [] else cutsL (s.drop 1)
/-- The head of a key. -/
def headL (key : List UInt8) : List UInt8 := if 0 ≤ Lib.indexByte key 32 then key.take (Lib.indexByte key 32).toNat else key

/-- How far a number of a kind may get. -/
def bndK (kd : Nat) : Int := if kd = 1 then 1000000000 else 1000000000000000
/-- The state that a key tells: 0 no such word, 1 no number; or the state. -/
def fromK (key : List UInt8) : Except Nat PS :=
  match codeL 1 (headL key) with
  | none => .error 0
  | some kd =>
    let items := key.drop (headL key).length
    if kd = 1 ∨ kd = 2 then
      match prn (items.drop 1) with
      | none => .error 0
      | some n => if nearB n (bndK kd) then .ok ⟨kd, n, [], []⟩ else .error 1
    else if kd = 3 then
      match valsR (itemsOf items) with
      | none => .error 0
      | some l => if l.all (nearB · 1000000000) then .ok ⟨kd, 0, l, []⟩ else .error 1
    else
      match kvsR none (itemsOf items) with
      | none => .error 0
      | some l => if l.all inKv then .ok ⟨kd, 0, [], l⟩ else .error 1

/-- A state's key. -/
def keyL (s : PS) : List UInt8 := if s.kind = 1 ∨ s.kind = 2 then wordL 1 s.kind ++ 32 :: Lib.itoa s.n else wordL 1 s.kind ++ s.text

/-- Items joined again, a blank ahead of each. -/
def blanks : List (List UInt8) → List UInt8
  | [] => []
  | x :: l => 32 :: (x ++ blanks l)
theorem cuts_join : ∀ l : List UInt8, blanks (cutsL l) = 32 :: l
  | [] => rfl
  | c :: t => by
    have ih := cuts_join t
    unfold cutsL
    split
    · rename_i h; subst h
      simp [blanks, ih]
    · split
      · rename_i h; exact absurd h (cuts_ne t)
      · rename_i p r h
        rw [h] at ih
        simp only [blanks, List.cons.injEq, true_and] at ih
        simp [blanks, ih]
theorem valsR_text : ∀ {r : List (List UInt8)} {l : List Int}, valsR r = some l → blanks r = qtext l
  | [], l, h => by simp [valsR] at h; subst h; rfl
  | it :: r, l, h => by
    unfold valsR at h
    split at h
    · cases h
    · rename_i v hv
      obtain ⟨t, ht, rfl⟩ := Option.map_eq_some_iff.1 h
      have := valsR_text ht
      simp [blanks, qtext, this, prn_some hv]
theorem kvsR_text : ∀ {r : List (List UInt8)} {l : List (Int × Int)} {prev : Option Int}, kvsR prev r = some l → blanks r = mtext l
  | [], l, _, h => by simp [kvsR] at h; subst h; rfl
  | it :: r, l, prev, h => by
    unfold kvsR at h
    split at h
    · cases h
    · rename_i k v hp
      split at h
      · obtain ⟨t, ht, rfl⟩ := Option.map_eq_some_iff.1 h
        have := kvsR_text ht
        simp [blanks, mtext, this, pairR_some hp]
      · cases h
theorem kvsR_rises : ∀ {r : List (List UInt8)} {l : List (Int × Int)} {prev : Option Int}, kvsR prev r = some l → Rises l ∧ ∀ q, prev = some q → ∀ p ∈ l, q < p.1
  | [], l, _, h => by simp [kvsR] at h; subst h; exact ⟨List.Pairwise.nil, by simp⟩
  | it :: r, l, prev, h => by
    unfold kvsR at h
    split at h
    · cases h
    · rename_i k v hp
      split at h
      · rename_i hq
        obtain ⟨t, ht, rfl⟩ := Option.map_eq_some_iff.1 h
        obtain ⟨h1, h2⟩ := kvsR_rises ht
        refine ⟨List.pairwise_cons.2 ⟨fun p hp' => h2 k rfl p hp', h1⟩, fun q e p hp' => ?_⟩
        subst e
        have hqk : q < k := by simpa [above] using hq
        rcases List.mem_cons.1 hp' with rfl | hp'
        · exact hqk
        · have := h2 k rfl p hp'; omega
      · cases h
theorem items_blanks {s : List UInt8} (h : s = [] ∨ ∃ r, s = 32 :: r) : blanks (itemsOf s) = s := by
  rcases h with rfl | ⟨r, rfl⟩
  · rfl
  · unfold itemsOf
    rw [if_neg (by simp)]
    exact cuts_join r
theorem head_split (key : List UInt8) : (key.drop (headL key).length = [] ∨ ∃ r, key.drop (headL key).length = 32 :: r) ∧ key = headL key ++ key.drop (headL key).length := by
  unfold headL
  split
  · rename_i h
    obtain ⟨i, hi⟩ : ∃ i : Nat, Lib.indexByte key 32 = i := ⟨(Lib.indexByte key 32).toNat, by omega⟩
    obtain ⟨h1, h2, h3⟩ := ib_split hi
    rw [hi, Int.toNat_natCast]
    have hl : (key.take i).length = i := by rw [List.length_take]; omega
    rw [hl]
    have hd : key.drop i = 32 :: key.drop (i + 1) := by
      conv => lhs; rw [h2]
      rw [List.drop_append]
      simp [hl]
    exact ⟨.inr ⟨_, hd⟩, (List.take_append_drop i key).symm⟩
  · exact ⟨.inl (by simp), by simp⟩

theorem fromK_key {key : List UInt8} {s : PS} (h : fromK key = .ok s) : keyL s = key := by
  obtain ⟨h1, h2⟩ := head_split key
  unfold fromK at h
  split at h
  · cases h
  rename_i kd hc
  have hw : wordL 1 kd = headL key := codeL_word hc
  simp only at h
  split at h
  · rename_i hk
    split at h
    · cases h
    · rename_i n hn
      split at h
      · cases h
        unfold keyL
        rw [if_pos (by show (kd : Int) = 1 ∨ (kd : Int) = 2; omega)]
        show wordL 1 kd ++ 32 :: Lib.itoa n = key
        rw [hw, prn_some hn]
        rcases h1 with h1 | ⟨r, h1⟩
        · rw [h1] at hn
          exact absurd (prn_some hn) (itoa_ne n)
        · conv => rhs; rw [h2]
          rw [h1]; rfl
      · cases h
  rename_i hk
  split at h
  · rename_i hk3
    split at h
    · cases h
    · rename_i l hl
      split at h
      · cases h
        unfold keyL
        rw [if_neg (by show ¬ ((kd : Int) = 1 ∨ (kd : Int) = 2); omega)]
        show wordL 1 kd ++ (qtext l ++ mtext []) = key
        rw [hw, ← valsR_text hl, items_blanks h1]
        simp only [mtext, List.append_nil]
        exact h2.symm
      · cases h
  · split at h
    · cases h
    · rename_i l hl
      split at h
      · cases h
        unfold keyL
        rw [if_neg (by show ¬ ((kd : Int) = 1 ∨ (kd : Int) = 2); omega)]
        show wordL 1 kd ++ (qtext [] ++ mtext l) = key
        rw [hw, ← kvsR_text hl, items_blanks h1]
        simp only [qtext, List.nil_append]
        exact h2.symm
      · cases h
end Go.Proofs.YtcjfcomadcebnaaGreatDoor
