/-
  THE LIBRARY'S CONTRACTS AT THIS TRANSLATION'S NUMBERS: tables of numbers, each field a fact of the translation's own or the kernel's comparison. Conditions: none.
  PLAIN MATHEMATICS OF LAYER 1 (numbers as bytes): lists of bytes and natural numbers, nothing of the program. Conditions: none.
  JSON IN PLAIN MATHEMATICS: values as package api has them, runes in UTF-8, texts, numbers, what the document reads and writes. Conditions: none.
  HOW THE PROGRAM READS, IN PLAIN MATHEMATICS: parts up to a bracket, a value, a number behind which no stroke stands. Conditions: none.
  WHOLE NUMBERS AND THEIR DECIMAL DIGITS: what is written is read, and what is read was written so. Conditions: numbers up to 2^53 - 1.
-/
import Derived.Shelf.Strings.SlTrimAscii
import Derived.Shelf.Strings.BuilderRune
import Derived.Shelf.Unicode.DecodeAny
import Derived.Shelf.Strconv.ParseIntPublic10
import Derived.Shelf.LaysC
import Derived.Shelf.LaysM
import Derived.Test.YtbgadfaiehkanaaGreatDoorChecked
import Derived.Lib.ItoaNum
import Derived.Lib.ParseIntB

namespace Go.Proofs.YtbgadfaiehkanaaGreatDoor
open Go.Shelf Go.Proofs
set_option maxRecDepth 100000

def lay_lays161_ren : Go.Shelf.Ren := ⟨fun | 161 => 127 | 231 => 157 | 227 => 158 | 233 => 159 | 235 => 160 | 228 => 190 | 197 => 191 | 151 => 192 | 260 => 210 | 152 => 211 | 137 => 176 | 119 => 226 | 224 => 227 | 225 => 228 | 217 => 203 | 266 => 224 | n => n, fun | 9 => 9 | 4 => 4 | 3 => 3 | 5 => 5 | 117 => 196 | 116 => 195 | 0 => 0 | 124 => 199 | 105 => 224 | 21 => 21 | 119 => 177 | 46 => 181 | 139 => 180 | 138 => 179 | n => n, fun | 3 => 0 | 4 => 1 | n => n⟩

theorem lay_lays161 : Go.Proofs.Lays.n161 Tryz.prog lay_lays161_ren := {
  mixed := by kernel_rfl
  f119 := Tryz.func226.trans (congrArg some (by kernel_rfl))
  f137 := Tryz.func176.trans (congrArg some (by kernel_rfl))
  f151 := Tryz.func192.trans (congrArg some (by kernel_rfl))
  f152 := Tryz.func211.trans (congrArg some (by kernel_rfl))
  f161 := Tryz.func127.trans (congrArg some (by kernel_rfl))
  f197 := Tryz.func191.trans (congrArg some (by kernel_rfl))
  f217 := Tryz.func203.trans (congrArg some (by kernel_rfl))
  f224 := Tryz.func227.trans (congrArg some (by kernel_rfl))
  f225 := Tryz.func228.trans (congrArg some (by kernel_rfl))
  f227 := Tryz.func158.trans (congrArg some (by kernel_rfl))
  f228 := Tryz.func190.trans (congrArg some (by kernel_rfl))
  f231 := Tryz.func157.trans (congrArg some (by kernel_rfl))
  f233 := Tryz.func159.trans (congrArg some (by kernel_rfl))
  f235 := Tryz.func160.trans (congrArg some (by kernel_rfl))
  f260 := Tryz.func210.trans (congrArg some (by kernel_rfl))
  f266 := Tryz.func224.trans (congrArg some (by kernel_rfl))
  t0 := Tryz.underlying0
  a0 := Tryz.isAgg0
  z0 := Tryz.sizeOf0
  v0 := Tryz.zeroValue0
  t3 := Tryz.underlying3
  a3 := Tryz.isAgg3
  z3 := Tryz.sizeOf3
  v3 := Tryz.zeroValue3
  t4 := Tryz.underlying4
  a4 := Tryz.isAgg4
  z4 := Tryz.sizeOf4
  v4 := Tryz.zeroValue4
  t5 := Tryz.underlying5
  a5 := Tryz.isAgg5
  z5 := Tryz.sizeOf5
  v5 := Tryz.zeroValue5
  t9 := Tryz.underlying9
  a9 := Tryz.isAgg9
  z9 := Tryz.sizeOf9
  v9 := Tryz.zeroValue9
  t21 := Tryz.underlying21
  a21 := Tryz.isAgg21
  z21 := Tryz.sizeOf21
  v21 := Tryz.zeroValue21
  t46 := Tryz.underlying181
  a46 := Tryz.isAgg181
  z46 := Tryz.sizeOf181
  v46 := Tryz.zeroValue181
  t105 := Tryz.underlying224
  a105 := Tryz.isAgg224
  z105 := Tryz.sizeOf224
  v105 := Tryz.zeroValue224
  t116 := Tryz.underlying195
  a116 := Tryz.isAgg195
  z116 := Tryz.sizeOf195
  t117 := Tryz.underlying196
  a117 := Tryz.isAgg196
  z117 := Tryz.sizeOf196
  v117 := Tryz.zeroValue196
  t119 := Tryz.underlying177
  a119 := Tryz.isAgg177
  z119 := Tryz.sizeOf177
  t124 := Tryz.underlying199
  a124 := Tryz.isAgg199
  z124 := Tryz.sizeOf199
  v124 := Tryz.zeroValue199
  t138 := Tryz.underlying179
  a138 := Tryz.isAgg179
  z138 := Tryz.sizeOf179
  v138 := Tryz.zeroValue179
  t139 := Tryz.underlying180
  a139 := Tryz.isAgg180
  z139 := Tryz.sizeOf180
  v139 := Tryz.zeroValue180
  g3 := by kernel_rfl
  g4 := by kernel_rfl }

def lay_lays197_ren : Go.Shelf.Ren := ⟨fun | 197 => 191 | 260 => 210 | n => n, fun | 9 => 9 | 21 => 21 | 3 => 3 | 4 => 4 | 5 => 5 | 105 => 224 | 119 => 177 | 0 => 0 | 46 => 181 | 139 => 180 | 138 => 179 | n => n, fun | 3 => 0 | 4 => 1 | n => n⟩

theorem lay_lays197 : Go.Proofs.Lays.n197 Tryz.prog lay_lays197_ren := {
  mixed := by kernel_rfl
  f197 := Tryz.func191.trans (congrArg some (by kernel_rfl))
  f260 := Tryz.func210.trans (congrArg some (by kernel_rfl))
  t0 := Tryz.underlying0
  a0 := Tryz.isAgg0
  z0 := Tryz.sizeOf0
  v0 := Tryz.zeroValue0
  t3 := Tryz.underlying3
  a3 := Tryz.isAgg3
  z3 := Tryz.sizeOf3
  v3 := Tryz.zeroValue3
  t4 := Tryz.underlying4
  a4 := Tryz.isAgg4
  z4 := Tryz.sizeOf4
  v4 := Tryz.zeroValue4
  t5 := Tryz.underlying5
  a5 := Tryz.isAgg5
  z5 := Tryz.sizeOf5
  v5 := Tryz.zeroValue5
  t9 := Tryz.underlying9
  a9 := Tryz.isAgg9
  z9 := Tryz.sizeOf9
  v9 := Tryz.zeroValue9
  t21 := Tryz.underlying21
  a21 := Tryz.isAgg21
  z21 := Tryz.sizeOf21
  v21 := Tryz.zeroValue21
  t46 := Tryz.underlying181
  a46 := Tryz.isAgg181
  z46 := Tryz.sizeOf181
  v46 := Tryz.zeroValue181
  t105 := Tryz.underlying224
  a105 := Tryz.isAgg224
  z105 := Tryz.sizeOf224
  v105 := Tryz.zeroValue224
  t119 := Tryz.underlying177
  a119 := Tryz.isAgg177
  z119 := Tryz.sizeOf177
  t138 := Tryz.underlying179
  a138 := Tryz.isAgg179
  z138 := Tryz.sizeOf179
  v138 := Tryz.zeroValue179
  t139 := Tryz.underlying180
  a139 := Tryz.isAgg180
  z139 := Tryz.sizeOf180
  v139 := Tryz.zeroValue180
  g3 := by kernel_rfl
  g4 := by kernel_rfl }

def lay_lays196_ren : Go.Shelf.Ren := ⟨fun | 196 => 96 | 259 => 136 | n => n, fun | 9 => 9 | 4 => 4 | 3 => 3 | 5 => 5 | 12 => 12 | 119 => 177 | 0 => 0 | 46 => 181 | 139 => 180 | 138 => 179 | 53 => 115 | n => n, fun | 3 => 0 | 4 => 1 | n => n⟩

theorem lay_lays196 : Go.Proofs.Lays.n196 Tryz.prog lay_lays196_ren := {
  mixed := by kernel_rfl
  f196 := Tryz.func96.trans (congrArg some (by kernel_rfl))
  f259 := Tryz.func136.trans (congrArg some (by kernel_rfl))
  t0 := Tryz.underlying0
  a0 := Tryz.isAgg0
  z0 := Tryz.sizeOf0
  v0 := Tryz.zeroValue0
  t3 := Tryz.underlying3
  a3 := Tryz.isAgg3
  z3 := Tryz.sizeOf3
  v3 := Tryz.zeroValue3
  t4 := Tryz.underlying4
  a4 := Tryz.isAgg4
  z4 := Tryz.sizeOf4
  v4 := Tryz.zeroValue4
  t5 := Tryz.underlying5
  a5 := Tryz.isAgg5
  z5 := Tryz.sizeOf5
  v5 := Tryz.zeroValue5
  t9 := Tryz.underlying9
  a9 := Tryz.isAgg9
  z9 := Tryz.sizeOf9
  v9 := Tryz.zeroValue9
  t12 := Tryz.underlying12
  a12 := Tryz.isAgg12
  z12 := Tryz.sizeOf12
  v12 := Tryz.zeroValue12
  t46 := Tryz.underlying181
  a46 := Tryz.isAgg181
  z46 := Tryz.sizeOf181
  v46 := Tryz.zeroValue181
  t53 := Tryz.underlying115
  a53 := Tryz.isAgg115
  z53 := Tryz.sizeOf115
  v53 := Tryz.zeroValue115
  t119 := Tryz.underlying177
  a119 := Tryz.isAgg177
  z119 := Tryz.sizeOf177
  t138 := Tryz.underlying179
  a138 := Tryz.isAgg179
  z138 := Tryz.sizeOf179
  v138 := Tryz.zeroValue179
  t139 := Tryz.underlying180
  a139 := Tryz.isAgg180
  z139 := Tryz.sizeOf180
  v139 := Tryz.zeroValue180
  g3 := by kernel_rfl
  g4 := by kernel_rfl }

def lay_lays174_ren : Go.Shelf.Ren := ⟨fun | 174 => 169 | 247 => 196 | 245 => 197 | 287 => 214 | 279 => 215 | 280 => 216 | 281 => 217 | 282 => 218 | 321 => 230 | 322 => 231 | 316 => 232 | 171 => 234 | 205 => 233 | 243 => 238 | 246 => 173 | 283 => 198 | 284 => 199 | 285 => 200 | 286 => 201 | 129 => 187 | 317 => 219 | 318 => 220 | 319 => 221 | 320 => 222 | 337 => 235 | 338 => 236 | n => n, fun | 9 => 9 | 3 => 3 | 2 => 2 | 75 => 136 | 85 => 206 | 4 => 4 | 167 => 240 | 5 => 5 | 53 => 115 | 175 => 241 | 46 => 181 | 168 => 243 | 37 => 22 | 0 => 0 | 210 => 256 | 21 => 21 | 127 => 142 | 145 => 260 | 143 => 258 | 171 => 229 | 173 => 231 | 212 => 248 | 51 => 38 | 20 => 20 | 213 => 249 | 232 => 261 | 233 => 262 | 80 => 80 | n => n, fun | 15 => 4 | 16 => 5 | 17 => 3 | 18 => 6 | 19 => 7 | n => n⟩

theorem lay_lays174 : Go.Proofs.LaysC.n174 Tryz.prog lay_lays174_ren := {
  mixed := by kernel_rfl
  f129 := Tryz.func187.trans (congrArg some (by kernel_rfl))
  f171 := Tryz.func234.trans (congrArg some (by kernel_rfl))
  f174 := Tryz.func169.trans (congrArg some (by kernel_rfl))
  f205 := Tryz.func233.trans (congrArg some (by kernel_rfl))
  f243 := Tryz.func238.trans (congrArg some (by kernel_rfl))
  f245 := Tryz.func197.trans (congrArg some (by kernel_rfl))
  f246 := Tryz.func173.trans (congrArg some (by kernel_rfl))
  f247 := Tryz.func196.trans (congrArg some (by kernel_rfl))
  f279 := Tryz.func215.trans (congrArg some (by kernel_rfl))
  f280 := Tryz.func216.trans (congrArg some (by kernel_rfl))
  f281 := Tryz.func217.trans (congrArg some (by kernel_rfl))
  f282 := Tryz.func218.trans (congrArg some (by kernel_rfl))
  f283 := Tryz.func198.trans (congrArg some (by kernel_rfl))
  f284 := Tryz.func199.trans (congrArg some (by kernel_rfl))
  f285 := Tryz.func200.trans (congrArg some (by kernel_rfl))
  f286 := Tryz.func201.trans (congrArg some (by kernel_rfl))
  f287 := Tryz.func214.trans (congrArg some (by kernel_rfl))
  f316 := Tryz.func232.trans (congrArg some (by kernel_rfl))
  f317 := Tryz.func219.trans (congrArg some (by kernel_rfl))
  f318 := Tryz.func220.trans (congrArg some (by kernel_rfl))
  f319 := Tryz.func221.trans (congrArg some (by kernel_rfl))
  f320 := Tryz.func222.trans (congrArg some (by kernel_rfl))
  f321 := Tryz.func230.trans (congrArg some (by kernel_rfl))
  f322 := Tryz.func231.trans (congrArg some (by kernel_rfl))
  f337 := Tryz.func235.trans (congrArg some (by kernel_rfl))
  f338 := Tryz.func236.trans (congrArg some (by kernel_rfl))
  t0 := Tryz.underlying0
  a0 := Tryz.isAgg0
  z0 := Tryz.sizeOf0
  v0 := Tryz.zeroValue0
  t2 := Tryz.underlying2
  a2 := Tryz.isAgg2
  z2 := Tryz.sizeOf2
  v2 := Tryz.zeroValue2
  t3 := Tryz.underlying3
  a3 := Tryz.isAgg3
  z3 := Tryz.sizeOf3
  v3 := Tryz.zeroValue3
  t4 := Tryz.underlying4
  a4 := Tryz.isAgg4
  z4 := Tryz.sizeOf4
  v4 := Tryz.zeroValue4
  t5 := Tryz.underlying5
  a5 := Tryz.isAgg5
  z5 := Tryz.sizeOf5
  v5 := Tryz.zeroValue5
  t9 := Tryz.underlying9
  a9 := Tryz.isAgg9
  z9 := Tryz.sizeOf9
  v9 := Tryz.zeroValue9
  t20 := Tryz.underlying20
  a20 := Tryz.isAgg20
  z20 := Tryz.sizeOf20
  v20 := Tryz.zeroValue20
  t21 := Tryz.underlying21
  a21 := Tryz.isAgg21
  z21 := Tryz.sizeOf21
  v21 := Tryz.zeroValue21
  t37 := Tryz.underlying22
  a37 := Tryz.isAgg22
  z37 := Tryz.sizeOf22
  v37 := Tryz.zeroValue22
  t46 := Tryz.underlying181
  a46 := Tryz.isAgg181
  z46 := Tryz.sizeOf181
  v46 := Tryz.zeroValue181
  t51 := Tryz.underlying38
  a51 := Tryz.isAgg38
  z51 := Tryz.sizeOf38
  v51 := Tryz.zeroValue38
  t53 := Tryz.underlying115
  a53 := Tryz.isAgg115
  z53 := Tryz.sizeOf115
  v53 := Tryz.zeroValue115
  t75 := Tryz.underlying136
  a75 := Tryz.isAgg136
  z75 := Tryz.sizeOf136
  v75 := Tryz.zeroValue136
  t85 := Tryz.underlying206
  a85 := Tryz.isAgg206
  z85 := Tryz.sizeOf206
  v85 := Tryz.zeroValue206
  t127 := Tryz.underlying142
  a127 := Tryz.isAgg142
  z127 := Tryz.sizeOf142
  v127 := Tryz.zeroValue142
  t143 := Tryz.underlying258
  a143 := Tryz.isAgg258
  z143 := Tryz.sizeOf258
  v143 := Tryz.zeroValue258
  t145 := Tryz.underlying260
  a145 := Tryz.isAgg260
  z145 := Tryz.sizeOf260
  v145 := Tryz.zeroValue260
  t167 := Tryz.underlying240
  a167 := Tryz.isAgg240
  z167 := Tryz.sizeOf240
  v167 := Tryz.zeroValue240
  t168 := Tryz.underlying243
  a168 := Tryz.isAgg243
  z168 := Tryz.sizeOf243
  v168 := Tryz.zeroValue243
  t171 := Tryz.underlying229
  a171 := Tryz.isAgg229
  z171 := Tryz.sizeOf229
  v171 := Tryz.zeroValue229
  t173 := Tryz.underlying231
  a173 := Tryz.isAgg231
  z173 := Tryz.sizeOf231
  v173 := Tryz.zeroValue231
  t175 := Tryz.underlying241
  a175 := Tryz.isAgg241
  z175 := Tryz.sizeOf241
  v175 := Tryz.zeroValue241
  t210 := Tryz.underlying256
  a210 := Tryz.isAgg256
  z210 := Tryz.sizeOf256
  v210 := Tryz.zeroValue256
  t212 := Tryz.underlying248
  a212 := Tryz.isAgg248
  z212 := Tryz.sizeOf248
  v212 := Tryz.zeroValue248
  t213 := Tryz.underlying249
  a213 := Tryz.isAgg249
  z213 := Tryz.sizeOf249
  t232 := Tryz.underlying261
  a232 := Tryz.isAgg261
  z232 := Tryz.sizeOf261
  v232 := Tryz.zeroValue261
  t233 := Tryz.underlying262
  a233 := Tryz.isAgg262
  z233 := Tryz.sizeOf262
  v233 := Tryz.zeroValue262
  g15 := by kernel_rfl
  g16 := by kernel_rfl
  g17 := by kernel_rfl
  g18 := by kernel_rfl
  g19 := by kernel_rfl
  t80 := Tryz.underlying80
  a80 := Tryz.isAgg80
  z80 := Tryz.sizeOf80
  v80 := Tryz.zeroValue80
  i0 := by kernel_rfl
  i2 := by kernel_rfl
  i3 := by kernel_rfl
  i4 := by kernel_rfl
  i5 := by kernel_rfl
  i9 := by kernel_rfl
  i20 := by kernel_rfl
  i21 := by kernel_rfl
  i37 := by kernel_rfl
  i46 := by kernel_rfl
  i51 := by kernel_rfl
  i53 := by kernel_rfl
  i75 := by kernel_rfl
  i80 := by kernel_rfl
  i85 := by kernel_rfl
  i127 := by kernel_rfl
  i143 := by kernel_rfl
  i145 := by kernel_rfl
  i167 := by kernel_rfl
  i168 := by kernel_rfl
  i171 := by kernel_rfl
  i173 := by kernel_rfl
  i175 := by kernel_rfl
  i210 := by kernel_rfl
  i212 := by kernel_rfl
  i232 := by kernel_rfl
  i233 := by kernel_rfl
  m15 := by kernel_rfl
  m16 := by kernel_rfl
  m17 := by kernel_rfl
  m18 := by kernel_rfl
  m19 := by kernel_rfl
  c0 := by kernel_rfl
  c2 := by kernel_rfl
  c3 := by kernel_rfl
  c4 := by kernel_rfl
  c5 := by kernel_rfl
  c9 := by kernel_rfl
  c20 := by kernel_rfl
  c21 := by kernel_rfl
  c37 := by kernel_rfl
  c46 := by kernel_rfl
  c51 := by kernel_rfl
  c53 := by kernel_rfl
  c75 := by kernel_rfl
  c80 := by kernel_rfl
  c85 := by kernel_rfl
  c127 := by kernel_rfl
  c143 := by kernel_rfl
  c145 := by kernel_rfl
  c167 := by kernel_rfl
  c168 := by kernel_rfl
  c171 := by kernel_rfl
  c173 := by kernel_rfl
  c175 := by kernel_rfl
  c210 := by kernel_rfl
  c212 := by kernel_rfl
  c213 := by kernel_rfl
  c232 := by kernel_rfl
  c233 := by kernel_rfl }

def lay_lays245_ren : Go.Shelf.Ren := ⟨fun | 245 => 197 | 279 => 215 | 280 => 216 | 281 => 217 | 282 => 218 | 316 => 232 | 171 => 234 | 205 => 233 | 243 => 238 | 246 => 173 | 283 => 198 | 284 => 199 | 285 => 200 | 286 => 201 | 129 => 187 | 317 => 219 | 318 => 220 | 319 => 221 | 320 => 222 | 337 => 235 | 338 => 236 | n => n, fun | 9 => 9 | 3 => 3 | 75 => 136 | 167 => 240 | 4 => 4 | 168 => 243 | 210 => 256 | 37 => 22 | 0 => 0 | 127 => 142 | 145 => 260 | 143 => 258 | 2 => 2 | 171 => 229 | 53 => 115 | 5 => 5 | 173 => 231 | 212 => 248 | 51 => 38 | 20 => 20 | 213 => 249 | 46 => 181 | 232 => 261 | 233 => 262 | 80 => 80 | n => n, fun | 15 => 4 | 16 => 5 | 17 => 3 | 18 => 6 | 19 => 7 | n => n⟩

theorem lay_lays245 : Go.Proofs.LaysC.n245 Tryz.prog lay_lays245_ren := {
  mixed := by kernel_rfl
  f129 := Tryz.func187.trans (congrArg some (by kernel_rfl))
  f171 := Tryz.func234.trans (congrArg some (by kernel_rfl))
  f205 := Tryz.func233.trans (congrArg some (by kernel_rfl))
  f243 := Tryz.func238.trans (congrArg some (by kernel_rfl))
  f245 := Tryz.func197.trans (congrArg some (by kernel_rfl))
  f246 := Tryz.func173.trans (congrArg some (by kernel_rfl))
  f279 := Tryz.func215.trans (congrArg some (by kernel_rfl))
  f280 := Tryz.func216.trans (congrArg some (by kernel_rfl))
  f281 := Tryz.func217.trans (congrArg some (by kernel_rfl))
  f282 := Tryz.func218.trans (congrArg some (by kernel_rfl))
  f283 := Tryz.func198.trans (congrArg some (by kernel_rfl))
  f284 := Tryz.func199.trans (congrArg some (by kernel_rfl))
  f285 := Tryz.func200.trans (congrArg some (by kernel_rfl))
  f286 := Tryz.func201.trans (congrArg some (by kernel_rfl))
  f316 := Tryz.func232.trans (congrArg some (by kernel_rfl))
  f317 := Tryz.func219.trans (congrArg some (by kernel_rfl))
  f318 := Tryz.func220.trans (congrArg some (by kernel_rfl))
  f319 := Tryz.func221.trans (congrArg some (by kernel_rfl))
  f320 := Tryz.func222.trans (congrArg some (by kernel_rfl))
  f337 := Tryz.func235.trans (congrArg some (by kernel_rfl))
  f338 := Tryz.func236.trans (congrArg some (by kernel_rfl))
  t0 := Tryz.underlying0
  a0 := Tryz.isAgg0
  z0 := Tryz.sizeOf0
  v0 := Tryz.zeroValue0
  t2 := Tryz.underlying2
  a2 := Tryz.isAgg2
  z2 := Tryz.sizeOf2
  v2 := Tryz.zeroValue2
  t3 := Tryz.underlying3
  a3 := Tryz.isAgg3
  z3 := Tryz.sizeOf3
  v3 := Tryz.zeroValue3
  t4 := Tryz.underlying4
  a4 := Tryz.isAgg4
  z4 := Tryz.sizeOf4
  v4 := Tryz.zeroValue4
  t5 := Tryz.underlying5
  a5 := Tryz.isAgg5
  z5 := Tryz.sizeOf5
  v5 := Tryz.zeroValue5
  t9 := Tryz.underlying9
  a9 := Tryz.isAgg9
  z9 := Tryz.sizeOf9
  v9 := Tryz.zeroValue9
  t20 := Tryz.underlying20
  a20 := Tryz.isAgg20
  z20 := Tryz.sizeOf20
  v20 := Tryz.zeroValue20
  t37 := Tryz.underlying22
  a37 := Tryz.isAgg22
  z37 := Tryz.sizeOf22
  v37 := Tryz.zeroValue22
  t46 := Tryz.underlying181
  a46 := Tryz.isAgg181
  z46 := Tryz.sizeOf181
  v46 := Tryz.zeroValue181
  t51 := Tryz.underlying38
  a51 := Tryz.isAgg38
  z51 := Tryz.sizeOf38
  v51 := Tryz.zeroValue38
  t53 := Tryz.underlying115
  a53 := Tryz.isAgg115
  z53 := Tryz.sizeOf115
  v53 := Tryz.zeroValue115
  t75 := Tryz.underlying136
  a75 := Tryz.isAgg136
  z75 := Tryz.sizeOf136
  v75 := Tryz.zeroValue136
  t127 := Tryz.underlying142
  a127 := Tryz.isAgg142
  z127 := Tryz.sizeOf142
  v127 := Tryz.zeroValue142
  t143 := Tryz.underlying258
  a143 := Tryz.isAgg258
  z143 := Tryz.sizeOf258
  v143 := Tryz.zeroValue258
  t145 := Tryz.underlying260
  a145 := Tryz.isAgg260
  z145 := Tryz.sizeOf260
  v145 := Tryz.zeroValue260
  t167 := Tryz.underlying240
  a167 := Tryz.isAgg240
  z167 := Tryz.sizeOf240
  v167 := Tryz.zeroValue240
  t168 := Tryz.underlying243
  a168 := Tryz.isAgg243
  z168 := Tryz.sizeOf243
  v168 := Tryz.zeroValue243
  t171 := Tryz.underlying229
  a171 := Tryz.isAgg229
  z171 := Tryz.sizeOf229
  v171 := Tryz.zeroValue229
  t173 := Tryz.underlying231
  a173 := Tryz.isAgg231
  z173 := Tryz.sizeOf231
  v173 := Tryz.zeroValue231
  t210 := Tryz.underlying256
  a210 := Tryz.isAgg256
  z210 := Tryz.sizeOf256
  v210 := Tryz.zeroValue256
  t212 := Tryz.underlying248
  a212 := Tryz.isAgg248
  z212 := Tryz.sizeOf248
  v212 := Tryz.zeroValue248
  t213 := Tryz.underlying249
  a213 := Tryz.isAgg249
  z213 := Tryz.sizeOf249
  t232 := Tryz.underlying261
  a232 := Tryz.isAgg261
  z232 := Tryz.sizeOf261
  v232 := Tryz.zeroValue261
  t233 := Tryz.underlying262
  a233 := Tryz.isAgg262
  z233 := Tryz.sizeOf262
  v233 := Tryz.zeroValue262
  g15 := by kernel_rfl
  g16 := by kernel_rfl
  g17 := by kernel_rfl
  g18 := by kernel_rfl
  g19 := by kernel_rfl
  t80 := Tryz.underlying80
  a80 := Tryz.isAgg80
  z80 := Tryz.sizeOf80
  v80 := Tryz.zeroValue80
  i0 := by kernel_rfl
  i2 := by kernel_rfl
  i3 := by kernel_rfl
  i4 := by kernel_rfl
  i5 := by kernel_rfl
  i9 := by kernel_rfl
  i20 := by kernel_rfl
  i37 := by kernel_rfl
  i46 := by kernel_rfl
  i51 := by kernel_rfl
  i53 := by kernel_rfl
  i75 := by kernel_rfl
  i80 := by kernel_rfl
  i127 := by kernel_rfl
  i143 := by kernel_rfl
  i145 := by kernel_rfl
  i167 := by kernel_rfl
  i168 := by kernel_rfl
  i171 := by kernel_rfl
  i173 := by kernel_rfl
  i210 := by kernel_rfl
  i212 := by kernel_rfl
  i232 := by kernel_rfl
  i233 := by kernel_rfl
  m15 := by kernel_rfl
  m16 := by kernel_rfl
  m17 := by kernel_rfl
  m18 := by kernel_rfl
  m19 := by kernel_rfl
  c0 := by kernel_rfl
  c2 := by kernel_rfl
  c3 := by kernel_rfl
  c4 := by kernel_rfl
  c5 := by kernel_rfl
  c9 := by kernel_rfl
  c20 := by kernel_rfl
  c37 := by kernel_rfl
  c46 := by kernel_rfl
  c51 := by kernel_rfl
  c53 := by kernel_rfl
  c75 := by kernel_rfl
  c80 := by kernel_rfl
  c127 := by kernel_rfl
  c143 := by kernel_rfl
  c145 := by kernel_rfl
  c167 := by kernel_rfl
  c168 := by kernel_rfl
  c171 := by kernel_rfl
  c173 := by kernel_rfl
  c210 := by kernel_rfl
  c212 := by kernel_rfl
  c213 := by kernel_rfl
  c232 := by kernel_rfl
  c233 := by kernel_rfl }

def lay_lays173_ren : Go.Shelf.Ren := ⟨fun | 173 => 140 | 246 => 173 | 283 => 198 | 284 => 199 | 285 => 200 | 286 => 201 | 129 => 187 | 317 => 219 | 318 => 220 | 319 => 221 | 320 => 222 | 337 => 235 | 338 => 236 | n => n, fun | 2 => 2 | 3 => 3 | 9 => 9 | 4 => 4 | 171 => 229 | 0 => 0 | 53 => 115 | 37 => 22 | 5 => 5 | 173 => 231 | 212 => 248 | 51 => 38 | 20 => 20 | 213 => 249 | 46 => 181 | 232 => 261 | 233 => 262 | n => n, fun | 17 => 3 | 18 => 6 | 19 => 7 | n => n⟩

theorem lay_lays173 : Go.Proofs.LaysM.n173 Tryz.prog lay_lays173_ren := {
  mixed := by kernel_rfl
  f129 := Tryz.func187.trans (congrArg some (by kernel_rfl))
  f173 := Tryz.func140.trans (congrArg some (by kernel_rfl))
  f246 := Tryz.func173.trans (congrArg some (by kernel_rfl))
  f283 := Tryz.func198.trans (congrArg some (by kernel_rfl))
  f284 := Tryz.func199.trans (congrArg some (by kernel_rfl))
  f285 := Tryz.func200.trans (congrArg some (by kernel_rfl))
  f286 := Tryz.func201.trans (congrArg some (by kernel_rfl))
  f317 := Tryz.func219.trans (congrArg some (by kernel_rfl))
  f318 := Tryz.func220.trans (congrArg some (by kernel_rfl))
  f319 := Tryz.func221.trans (congrArg some (by kernel_rfl))
  f320 := Tryz.func222.trans (congrArg some (by kernel_rfl))
  f337 := Tryz.func235.trans (congrArg some (by kernel_rfl))
  f338 := Tryz.func236.trans (congrArg some (by kernel_rfl))
  t0 := Tryz.underlying0
  a0 := Tryz.isAgg0
  z0 := Tryz.sizeOf0
  v0 := Tryz.zeroValue0
  t2 := Tryz.underlying2
  a2 := Tryz.isAgg2
  z2 := Tryz.sizeOf2
  v2 := Tryz.zeroValue2
  t3 := Tryz.underlying3
  a3 := Tryz.isAgg3
  z3 := Tryz.sizeOf3
  v3 := Tryz.zeroValue3
  t4 := Tryz.underlying4
  a4 := Tryz.isAgg4
  z4 := Tryz.sizeOf4
  v4 := Tryz.zeroValue4
  t5 := Tryz.underlying5
  a5 := Tryz.isAgg5
  z5 := Tryz.sizeOf5
  v5 := Tryz.zeroValue5
  t9 := Tryz.underlying9
  a9 := Tryz.isAgg9
  z9 := Tryz.sizeOf9
  v9 := Tryz.zeroValue9
  t20 := Tryz.underlying20
  a20 := Tryz.isAgg20
  z20 := Tryz.sizeOf20
  v20 := Tryz.zeroValue20
  t37 := Tryz.underlying22
  a37 := Tryz.isAgg22
  z37 := Tryz.sizeOf22
  v37 := Tryz.zeroValue22
  t46 := Tryz.underlying181
  a46 := Tryz.isAgg181
  z46 := Tryz.sizeOf181
  v46 := Tryz.zeroValue181
  t51 := Tryz.underlying38
  a51 := Tryz.isAgg38
  z51 := Tryz.sizeOf38
  v51 := Tryz.zeroValue38
  t53 := Tryz.underlying115
  a53 := Tryz.isAgg115
  z53 := Tryz.sizeOf115
  v53 := Tryz.zeroValue115
  t171 := Tryz.underlying229
  a171 := Tryz.isAgg229
  z171 := Tryz.sizeOf229
  v171 := Tryz.zeroValue229
  t173 := Tryz.underlying231
  a173 := Tryz.isAgg231
  z173 := Tryz.sizeOf231
  v173 := Tryz.zeroValue231
  t212 := Tryz.underlying248
  a212 := Tryz.isAgg248
  z212 := Tryz.sizeOf248
  v212 := Tryz.zeroValue248
  t213 := Tryz.underlying249
  a213 := Tryz.isAgg249
  z213 := Tryz.sizeOf249
  t232 := Tryz.underlying261
  a232 := Tryz.isAgg261
  z232 := Tryz.sizeOf261
  v232 := Tryz.zeroValue261
  t233 := Tryz.underlying262
  a233 := Tryz.isAgg262
  z233 := Tryz.sizeOf262
  v233 := Tryz.zeroValue262
  g17 := by kernel_rfl
  g18 := by kernel_rfl
  g19 := by kernel_rfl
  i0 := by kernel_rfl
  i2 := by kernel_rfl
  i3 := by kernel_rfl
  i4 := by kernel_rfl
  i5 := by kernel_rfl
  i9 := by kernel_rfl
  i20 := by kernel_rfl
  i37 := by kernel_rfl
  i46 := by kernel_rfl
  i51 := by kernel_rfl
  i53 := by kernel_rfl
  i171 := by kernel_rfl
  i173 := by kernel_rfl
  i212 := by kernel_rfl
  i232 := by kernel_rfl
  i233 := by kernel_rfl
  m17 := by kernel_rfl
  m18 := by kernel_rfl
  m19 := by kernel_rfl }

def bren15 : Go.Shelf.Ren := ⟨fun | 166 => 99 | 167 => 141 | 168 => 162 | 169 => 47 | 240 => 138 | 242 => 194 | 276 => 172 | 278 => 212 | n => n, fun | 0 => 0 | 3 => 3 | 4 => 4 | 5 => 5 | 9 => 9 | 20 => 20 | 21 => 21 | 37 => 22 | 46 => 181 | 51 => 38 | 70 => 76 | 72 => 78 | 75 => 136 | 80 => 80 | 127 => 142 | 164 => 210 | n => n, fun | n => n⟩

theorem blay166 : Go.Proofs.Lays.n166 Tryz.prog bren15 := {
  mixed := by kernel_rfl
  f166 := Tryz.func99.trans (congrArg some (by kernel_rfl))
  f240 := Tryz.func138.trans (congrArg some (by kernel_rfl))
  f276 := Tryz.func172.trans (congrArg some (by kernel_rfl))
  t0 := Tryz.underlying0
  a0 := Tryz.isAgg0
  z0 := Tryz.sizeOf0
  v0 := Tryz.zeroValue0
  t3 := Tryz.underlying3
  a3 := Tryz.isAgg3
  z3 := Tryz.sizeOf3
  v3 := Tryz.zeroValue3
  t4 := Tryz.underlying4
  a4 := Tryz.isAgg4
  z4 := Tryz.sizeOf4
  v4 := Tryz.zeroValue4
  t9 := Tryz.underlying9
  a9 := Tryz.isAgg9
  z9 := Tryz.sizeOf9
  v9 := Tryz.zeroValue9
  t20 := Tryz.underlying20
  a20 := Tryz.isAgg20
  z20 := Tryz.sizeOf20
  v20 := Tryz.zeroValue20
  t37 := Tryz.underlying22
  a37 := Tryz.isAgg22
  z37 := Tryz.sizeOf22
  v37 := Tryz.zeroValue22
  t70 := Tryz.underlying76
  a70 := Tryz.isAgg76
  z70 := Tryz.sizeOf76
  v70 := Tryz.zeroValue76
  t72 := Tryz.underlying78
  a72 := Tryz.isAgg78
  z72 := Tryz.sizeOf78
  v72 := Tryz.zeroValue78
  t75 := Tryz.underlying136
  a75 := Tryz.isAgg136
  z75 := Tryz.sizeOf136
  v75 := Tryz.zeroValue136
  t164 := Tryz.underlying210
  a164 := Tryz.isAgg210
  z164 := Tryz.sizeOf210
  v164 := Tryz.zeroValue210 }

theorem blay167 : Go.Proofs.Lays.n167 Tryz.prog bren15 := {
  mixed := by kernel_rfl
  f167 := Tryz.func141.trans (congrArg some (by kernel_rfl))
  f240 := Tryz.func138.trans (congrArg some (by kernel_rfl))
  f276 := Tryz.func172.trans (congrArg some (by kernel_rfl))
  t0 := Tryz.underlying0
  a0 := Tryz.isAgg0
  z0 := Tryz.sizeOf0
  v0 := Tryz.zeroValue0
  t4 := Tryz.underlying4
  a4 := Tryz.isAgg4
  z4 := Tryz.sizeOf4
  v4 := Tryz.zeroValue4
  t5 := Tryz.underlying5
  a5 := Tryz.isAgg5
  z5 := Tryz.sizeOf5
  v5 := Tryz.zeroValue5
  t9 := Tryz.underlying9
  a9 := Tryz.isAgg9
  z9 := Tryz.sizeOf9
  v9 := Tryz.zeroValue9
  t20 := Tryz.underlying20
  a20 := Tryz.isAgg20
  z20 := Tryz.sizeOf20
  v20 := Tryz.zeroValue20
  t37 := Tryz.underlying22
  a37 := Tryz.isAgg22
  z37 := Tryz.sizeOf22
  v37 := Tryz.zeroValue22
  t70 := Tryz.underlying76
  a70 := Tryz.isAgg76
  z70 := Tryz.sizeOf76
  v70 := Tryz.zeroValue76
  t72 := Tryz.underlying78
  a72 := Tryz.isAgg78
  z72 := Tryz.sizeOf78
  v72 := Tryz.zeroValue78
  t75 := Tryz.underlying136
  a75 := Tryz.isAgg136
  z75 := Tryz.sizeOf136
  v75 := Tryz.zeroValue136
  t164 := Tryz.underlying210
  a164 := Tryz.isAgg210
  z164 := Tryz.sizeOf210
  v164 := Tryz.zeroValue210 }

theorem blay168 : Go.Proofs.Lays.n168 Tryz.prog bren15 := {
  mixed := by kernel_rfl
  f168 := Tryz.func162.trans (congrArg some (by kernel_rfl))
  f240 := Tryz.func138.trans (congrArg some (by kernel_rfl))
  f242 := Tryz.func194.trans (congrArg some (by kernel_rfl))
  f276 := Tryz.func172.trans (congrArg some (by kernel_rfl))
  f278 := Tryz.func212.trans (congrArg some (by kernel_rfl))
  t0 := Tryz.underlying0
  a0 := Tryz.isAgg0
  z0 := Tryz.sizeOf0
  v0 := Tryz.zeroValue0
  t3 := Tryz.underlying3
  a3 := Tryz.isAgg3
  z3 := Tryz.sizeOf3
  v3 := Tryz.zeroValue3
  t4 := Tryz.underlying4
  a4 := Tryz.isAgg4
  z4 := Tryz.sizeOf4
  v4 := Tryz.zeroValue4
  t5 := Tryz.underlying5
  a5 := Tryz.isAgg5
  z5 := Tryz.sizeOf5
  v5 := Tryz.zeroValue5
  t9 := Tryz.underlying9
  a9 := Tryz.isAgg9
  z9 := Tryz.sizeOf9
  v9 := Tryz.zeroValue9
  t20 := Tryz.underlying20
  a20 := Tryz.isAgg20
  z20 := Tryz.sizeOf20
  v20 := Tryz.zeroValue20
  t21 := Tryz.underlying21
  a21 := Tryz.isAgg21
  z21 := Tryz.sizeOf21
  v21 := Tryz.zeroValue21
  t37 := Tryz.underlying22
  a37 := Tryz.isAgg22
  z37 := Tryz.sizeOf22
  v37 := Tryz.zeroValue22
  t46 := Tryz.underlying181
  a46 := Tryz.isAgg181
  z46 := Tryz.sizeOf181
  v46 := Tryz.zeroValue181
  t51 := Tryz.underlying38
  a51 := Tryz.isAgg38
  z51 := Tryz.sizeOf38
  v51 := Tryz.zeroValue38
  t70 := Tryz.underlying76
  a70 := Tryz.isAgg76
  z70 := Tryz.sizeOf76
  v70 := Tryz.zeroValue76
  t72 := Tryz.underlying78
  a72 := Tryz.isAgg78
  z72 := Tryz.sizeOf78
  v72 := Tryz.zeroValue78
  t75 := Tryz.underlying136
  a75 := Tryz.isAgg136
  z75 := Tryz.sizeOf136
  v75 := Tryz.zeroValue136
  t164 := Tryz.underlying210
  a164 := Tryz.isAgg210
  z164 := Tryz.sizeOf210
  v164 := Tryz.zeroValue210 }

theorem blay169 : Go.Proofs.Lays.n169 Tryz.prog bren15 := {
  mixed := by kernel_rfl
  f169 := Tryz.func47.trans (congrArg some (by kernel_rfl))
  t0 := Tryz.underlying0
  a0 := Tryz.isAgg0
  z0 := Tryz.sizeOf0
  v0 := Tryz.zeroValue0
  t3 := Tryz.underlying3
  a3 := Tryz.isAgg3
  z3 := Tryz.sizeOf3
  v3 := Tryz.zeroValue3
  t9 := Tryz.underlying9
  a9 := Tryz.isAgg9
  z9 := Tryz.sizeOf9
  v9 := Tryz.zeroValue9
  t37 := Tryz.underlying22
  a37 := Tryz.isAgg22
  z37 := Tryz.sizeOf22
  v37 := Tryz.zeroValue22
  t70 := Tryz.underlying76
  a70 := Tryz.isAgg76
  z70 := Tryz.sizeOf76
  v70 := Tryz.zeroValue76
  t72 := Tryz.underlying78
  a72 := Tryz.isAgg78
  z72 := Tryz.sizeOf78
  v72 := Tryz.zeroValue78
  t127 := Tryz.underlying142
  a127 := Tryz.isAgg142
  z127 := Tryz.sizeOf142
  v127 := Tryz.zeroValue142 }

theorem blay240 : Go.Proofs.Lays.n240 Tryz.prog bren15 := {
  mixed := by kernel_rfl
  f240 := Tryz.func138.trans (congrArg some (by kernel_rfl))
  f276 := Tryz.func172.trans (congrArg some (by kernel_rfl))
  t0 := Tryz.underlying0
  a0 := Tryz.isAgg0
  z0 := Tryz.sizeOf0
  v0 := Tryz.zeroValue0
  t4 := Tryz.underlying4
  a4 := Tryz.isAgg4
  z4 := Tryz.sizeOf4
  v4 := Tryz.zeroValue4
  t9 := Tryz.underlying9
  a9 := Tryz.isAgg9
  z9 := Tryz.sizeOf9
  v9 := Tryz.zeroValue9
  t20 := Tryz.underlying20
  a20 := Tryz.isAgg20
  z20 := Tryz.sizeOf20
  v20 := Tryz.zeroValue20
  t70 := Tryz.underlying76
  a70 := Tryz.isAgg76
  z70 := Tryz.sizeOf76
  v70 := Tryz.zeroValue76
  t72 := Tryz.underlying78
  a72 := Tryz.isAgg78
  z72 := Tryz.sizeOf78
  v72 := Tryz.zeroValue78
  t164 := Tryz.underlying210
  a164 := Tryz.isAgg210
  z164 := Tryz.sizeOf210
  v164 := Tryz.zeroValue210 }

theorem bextra15 : Builder.Extra Tryz.prog bren15 := {
  sizeBuilder := by kernel_rfl
  liesBuilder := by kernel_rfl
  t5 := Tryz.underlying5
  a5 := Tryz.isAgg5
  z5 := Tryz.sizeOf5
  v5 := Tryz.zeroValue5
  infoByte := by kernel_rfl
  cellsByte := by kernel_rfl
  sizeByte := by kernel_rfl
  neB5 := by decide }

end Go.Proofs.YtbgadfaiehkanaaGreatDoor

namespace Go.Proofs.YtbgadfaiehkanaaGreatDoor.M

/-- The first n bytes of a number, the least first. -/
def le (v : Nat) : Nat → List UInt8
  | 0 => []
  | n + 1 => le v n ++ [UInt8.ofNat (v / 256 ^ n)]

/-- The number of the first k bytes, the least first; those that there aren't are 0. -/
def gl (b : List UInt8) : Nat → Nat
  | 0 => 0
  | k + 1 => gl b k + (b.getD k 0).toNat * 256 ^ k

/-- The number of the first k bytes, the greatest first; those that there aren't are 0. -/
def gb (b : List UInt8) : Nat → Nat
  | 0 => 0
  | k + 1 => gb b k * 256 + (b.getD k 0).toNat

theorem le_length (v n : Nat) : (le v n).length = n := by
  induction n with
  | zero => rfl
  | succ n ih => simp [le, ih]

theorem le_getD (v n k : Nat) (h : k < n) : (le v n).getD k 0 = UInt8.ofNat (v / 256 ^ k) := by
  induction n with
  | zero => omega
  | succ n ih =>
    by_cases hk : k < n
    · have := ih hk
      simp only [le, List.getD_eq_getElem?_getD]
      rw [List.getElem?_append_left (by rw [le_length]; exact hk)]
      simpa [List.getD_eq_getElem?_getD] using this
    · have : k = n := by omega
      subst this
      simp [le, List.getD_eq_getElem?_getD, le_length]

theorem pow_pos (k : Nat) : 0 < 256 ^ k := Nat.pow_pos (by omega)

theorem gl_lt (b : List UInt8) (k : Nat) : gl b k < 256 ^ k := by
  induction k with
  | zero => simp [gl]
  | succ k ih =>
    have h := (b.getD k 0).toNat_lt
    have h2 : (b.getD k 0).toNat * 256 ^ k ≤ 255 * 256 ^ k := Nat.mul_le_mul_right _ (by omega)
    simp only [gl, Nat.pow_succ]
    omega

theorem gb_lt (b : List UInt8) (k : Nat) : gb b k < 256 ^ k := by
  induction k with
  | zero => simp [gb]
  | succ k ih =>
    have h := (b.getD k 0).toNat_lt
    simp only [gb, Nat.pow_succ]
    omega

theorem gl_past (b : List UInt8) (k : Nat) (h : b.length ≤ k) : ∀ j, gl b (k + j) = gl b k := by
  intro j
  induction j with
  | zero => rfl
  | succ j ih =>
    rw [← Nat.add_assoc, gl, ih]
    simp [List.getD_eq_getElem?_getD, List.getElem?_eq_none (show b.length ≤ k + j by omega)]

theorem gb_past (b : List UInt8) (k : Nat) (h : b.length ≤ k) : ∀ j, gb b (k + j) = gb b k * 256 ^ j := by
  intro j
  induction j with
  | zero => simp
  | succ j ih =>
    rw [← Nat.add_assoc, gb, ih]
    simp [List.getD_eq_getElem?_getD, List.getElem?_eq_none (show b.length ≤ k + j by omega), Nat.pow_succ, Nat.mul_assoc]

theorem take_next (xs ys : List UInt8) (k : Nat) (hx : k < xs.length) (hy : k < ys.length) (h : xs.take k = ys.take k) (e : (xs.getD k 0).toNat = (ys.getD k 0).toNat) :
    xs.take (k + 1) = ys.take (k + 1) := by
  rw [List.take_succ_eq_append_getElem hx, List.take_succ_eq_append_getElem hy, h]
  have e' : xs.getD k 0 = ys.getD k 0 := UInt8.toNat_inj.1 e
  simp [hx, hy] at e'
  rw [e']

/-- The step of a reckoning from the greatest byte down. -/
theorem gl_step (bs : List UInt8) (v j n : Nat) (h : v * 256 ^ (j + 1) + gl bs (j + 1) = gl bs n) : (v * 256 + (bs.getD j 0).toNat) * 256 ^ j + gl bs j = gl bs n := by
  rw [← h, gl, Nat.pow_succ, Nat.add_mul]
  have : v * (256 ^ j * 256) = v * 256 * 256 ^ j := by rw [Nat.mul_comm (256 ^ j), Nat.mul_assoc]
  omega

theorem gl_small (bs : List UInt8) (v j n : Nat) (hn : n ≤ 8) (h : v * 256 ^ (j + 1) + gl bs (j + 1) = gl bs n) : v * 256 + 255 < 18446744073709551616 := by
  have h1 := gl_lt bs n
  have h2 : (256 : Nat) ^ n ≤ 256 ^ 8 := Nat.pow_le_pow_right (by omega) (by omega)
  have h3 : (256 : Nat) ^ 8 = 18446744073709551616 := by decide
  have h4 : v * 256 ≤ v * 256 ^ (j + 1) := Nat.mul_le_mul_left v (by rw [Nat.pow_succ]; have := pow_pos j; omega)
  omega

theorem gb_small (bs : List UInt8) (k n : Nat) (hn : n ≤ 8) (h : k < n) : gb bs k * 256 + 255 < 18446744073709551616 := by
  have h1 := gb_lt bs k
  have h2 : (256 : Nat) ^ k ≤ 256 ^ 7 := Nat.pow_le_pow_right (by omega) (by omega)
  have h3 : (256 : Nat) ^ 7 = 72057594037927936 := by decide
  omega

theorem getD_past (bs : List UInt8) (j : Nat) (h : ¬ j < bs.length) : (bs.getD j 0).toNat = 0 := by
  simp [List.getD_eq_getElem?_getD, List.getElem?_eq_none (show bs.length ≤ j by omega)]

theorem gl_le (v n : Nat) : ∀ k, k ≤ n → gl (le v n) k = v % 256 ^ k := by
  intro k
  induction k with
  | zero => intro _; simp [gl, Nat.mod_one]
  | succ k ih =>
    intro h
    have e : (UInt8.ofNat (v / 256 ^ k)).toNat = v / 256 ^ k % 256 := by simp
    rw [gl, ih (by omega), le_getD v n k (by omega), e, Nat.mod_pow_succ, Nat.mul_comm (256 ^ k)]

theorem gb_back (v n : Nat) : ∀ k, k ≤ n → gb (le v n).reverse k = (v % 256 ^ n) / 256 ^ (n - k) := by
  intro k
  induction k with
  | zero => intro _; simp [gb, Nat.div_eq_of_lt (Nat.mod_lt v (pow_pos n))]
  | succ k ih =>
    intro h
    have e : (UInt8.ofNat (v / 256 ^ (n - 1 - k))).toNat = v / 256 ^ (n - 1 - k) % 256 := by simp
    have g : (le v n).reverse.getD k 0 = UInt8.ofNat (v / 256 ^ (n - 1 - k)) := by
      rw [← le_getD v n (n - 1 - k) (by omega)]
      simp only [List.getD_eq_getElem?_getD]
      rw [List.getElem?_reverse (by rw [le_length]; omega), le_length]
    have s : n - k = (n - 1 - k) + 1 := by omega
    have t : n - (k + 1) = n - 1 - k := by omega
    rw [gb, ih (by omega), g, e, s, t]
    generalize hm : n - 1 - k = m
    have hmn : m < n := by omega
    have q : v / 256 ^ m % 256 = v % 256 ^ n / 256 ^ m % 256 := by
      have hp : 256 ^ n = 256 ^ m * 256 * 256 ^ (n - 1 - m) := by
        rw [← Nat.pow_succ, ← Nat.pow_add]
        congr 1
        omega
      have h1 : v % 256 ^ n / 256 ^ m = v / 256 ^ m % (256 * 256 ^ (n - 1 - m)) := by
        rw [hp, Nat.mul_assoc, Nat.mod_mul_right_div_self]
      rw [h1, Nat.mod_mul_right_mod]
    rw [q]
    generalize v % 256 ^ n = V
    rw [Nat.pow_succ, ← Nat.div_div_eq_div_mul]
    have := Nat.div_add_mod (V / 256 ^ m) 256
    omega

theorem gl_of_le (v n : Nat) (h : v < 256 ^ n) : gl (le v n) n = v := by
  rw [gl_le v n n (Nat.le_refl _), Nat.mod_eq_of_lt h]

theorem gb_of_back (v n : Nat) (h : v < 256 ^ n) : gb (le v n).reverse n = v := by
  rw [gb_back v n n (Nat.le_refl _), Nat.mod_eq_of_lt h]
  simp

theorem le_mod (v a : Nat) : ∀ n, n ≤ a → le (v % 256 ^ a) n = le v n := by
  intro n
  induction n with
  | zero => intro _; rfl
  | succ n ih =>
    intro h
    have hp : 256 ^ a = 256 ^ n * (256 * 256 ^ (a - 1 - n)) := by
      rw [← Nat.mul_assoc, ← Nat.pow_succ, ← Nat.pow_add]
      congr 1
      omega
    have e : UInt8.ofNat (v % 256 ^ a / 256 ^ n) = UInt8.ofNat (v / 256 ^ n) := by
      rw [hp, Nat.mod_mul_right_div_self]
      apply UInt8.toNat_inj.1
      simp [Nat.mod_mul_right_mod]
    simp only [le]
    rw [ih (by omega), e]

theorem le_add (v a : Nat) : ∀ n, le v (a + n) = le v a ++ le (v / 256 ^ a) n := by
  intro n
  induction n with
  | zero => simp [le]
  | succ n ih =>
    rw [← Nat.add_assoc, le, ih, le, List.append_assoc, Nat.div_div_eq_div_mul, ← Nat.pow_add]

theorem halves (v : Nat) : le v 8 = le (v % 4294967296) 4 ++ le (v / 4294967296) 4 := by
  have h := le_add v 4 4
  have e : (256 : Nat) ^ 4 = 4294967296 := by decide
  rw [e] at h
  have m := le_mod v 4 4 (Nat.le_refl _)
  rw [e] at m
  rw [m]
  exact h

theorem halves_back (v : Nat) : (le v 8).reverse = (le (v / 4294967296) 4).reverse ++ (le (v % 4294967296) 4).reverse := by
  rw [halves, List.reverse_append]

/-- A sum of a small number and a multiple of a power of two beyond it is their 'or'. -/
theorem or_up (a b k : Nat) (h : a < 256 ^ k) : a ||| b * 256 ^ k = a + b * 256 ^ k := by
  have e : (256 : Nat) ^ k = 2 ^ (8 * k) := by rw [Nat.pow_mul]
  rw [e] at h ⊢
  rw [← Nat.shiftLeft_eq, Nat.or_comm, ← Nat.shiftLeft_add_eq_or_of_lt h, Nat.add_comm]

theorem or_down (a b k : Nat) (h : b < 256 ^ k) : a * 256 ^ k ||| b = a * 256 ^ k + b := by
  have e : (256 : Nat) ^ k = 2 ^ (8 * k) := by rw [Nat.pow_mul]
  rw [e] at h ⊢
  rw [← Nat.shiftLeft_eq, Nat.shiftLeft_add_eq_or_of_lt h]

end Go.Proofs.YtbgadfaiehkanaaGreatDoor.M

namespace Go.Proofs.YtbgadfaiehkanaaGreatDoor
set_option linter.unusedVariables false
set_option maxRecDepth 100000

namespace M

/-- A value, whatever its fields. -/
inductive GV where
  | mk (k : Int) (b : Bool) (n : Int) (t : List UInt8) (l : List GV) (m : List (List UInt8 × GV))

def GV.k : GV → Int | .mk k _ _ _ _ _ => k
def GV.b : GV → Bool | .mk _ b _ _ _ _ => b
def GV.n : GV → Int | .mk _ _ n _ _ _ => n
def GV.t : GV → List UInt8 | .mk _ _ _ t _ _ => t
def GV.l : GV → List GV | .mk _ _ _ _ l _ => l
def GV.m : GV → List (List UInt8 × GV) | .mk _ _ _ _ _ m => m

def vNull : GV := .mk 0 false 0 [] [] []
def vBool (b : Bool) : GV := .mk 1 b 0 [] [] []
def vNum (n : Int) : GV := .mk 2 false n [] [] []
def vText (t : List UInt8) : GV := .mk 3 false 0 t [] []
def vList (l : List GV) : GV := .mk 4 false 0 [] l []
def vMap (m : List (List UInt8 × GV)) : GV := .mk 5 false 0 [] [] m

/-- What the first byte of a rune says: how many bytes, its bits, the least that so many bytes may tell. -/
def lead (c : Nat) : Nat × Nat × Nat := if 194 ≤ c ∧ c < 224 then (2, c % 32, 128) else if 224 ≤ c ∧ c < 240 then (3, c % 16, 2048) else if 240 ≤ c ∧ c < 245 then (4, c % 8, 65536) else (0, 0, 0)
/-- Bytes that follow, taken on. -/
def follow : List UInt8 → Nat → Option Nat
  | [], v => some v
  | c :: r, v => if c.toNat / 64 = 2 then follow r (v * 64 + c.toNat % 64) else none
/-- The first rune of bytes, and how many bytes it has. -/
def rune : List UInt8 → Nat × Nat
  | [] => (0, 0)
  | c :: r =>
    if c.toNat < 128 then (c.toNat, 1)
    else if (lead c.toNat).1 = 0 ∨ r.length + 1 < (lead c.toNat).1 then (0, 0)
    else match follow (r.take ((lead c.toNat).1 - 1)) (lead c.toNat).2.1 with
      | none => (0, 0)
      | some v => if v < (lead c.toNat).2.2 ∨ 1114111 < v ∨ 55296 ≤ v ∧ v < 57344 then (0, 0) else (v, (lead c.toNat).1)

/-- A rune's bytes. -/
def rbytes (v : Nat) : List UInt8 :=
  if v < 128 then [UInt8.ofNat v]
  else if v < 2048 then [UInt8.ofNat (192 + v / 64), UInt8.ofNat (128 + v % 64)]
  else if v < 65536 then [UInt8.ofNat (224 + v / 4096), UInt8.ofNat (128 + v / 64 % 64), UInt8.ofNat (128 + v % 64)]
  else [UInt8.ofNat (240 + v / 262144), UInt8.ofNat (128 + v / 4096 % 64), UInt8.ofNat (128 + v / 64 % 64), UInt8.ofNat (128 + v % 64)]

/-- Whether bytes are in UTF-8. -/
def utfF : Nat → List UInt8 → Bool
  | 0, s => s.isEmpty
  | f + 1, s => s.isEmpty || ((rune s).2 != 0 && utfF f (s.drop (rune s).2))
def utf (s : List UInt8) : Bool := utfF s.length s

def isBl (c : UInt8) : Bool := c == 9 || c == 10 || c == 13 || c == 32
def blk (s : List UInt8) : List UInt8 := s.dropWhile isBl

def hx (c : UInt8) : Option Nat := if 48 ≤ c.toNat ∧ c.toNat ≤ 57 then some (c.toNat - 48) else if 97 ≤ c.toNat ∧ c.toNat ≤ 102 then some (c.toNat - 97 + 10) else if 65 ≤ c.toNat ∧ c.toNat ≤ 70 then some (c.toNat - 65 + 10) else none
/-- k digits more, taken on. -/
def hexG : Nat → List UInt8 → Nat → Option Nat
  | 0, _, v => some v
  | k + 1, [], _ => none
  | k + 1, c :: r, v => (hx c).bind fun d => hexG k r (v * 16 + d)
def hex4 (s : List UInt8) : Option Nat := hexG 4 s 0

/-- The rune of an escape, from the byte behind the stroke on, and what is left behind it. -/
def esc : List UInt8 → Option (Nat × List UInt8)
  | [] => none
  | c :: r =>
    if c = 34 ∨ c = 92 ∨ c = 47 then some (c.toNat, r)
    else if c = 98 then some (8, r)
    else if c = 102 then some (12, r)
    else if c = 110 then some (10, r)
    else if c = 114 then some (13, r)
    else if c = 116 then some (9, r)
    else if c = 117 then
      match hex4 r with
      | none => none
      | some v =>
        if 56320 ≤ v ∧ v < 57344 then none
        else if v < 55296 ∨ 57344 ≤ v then some (v, r.drop 4)
        else if [92, 117] <+: r.drop 4 then
          match hex4 (r.drop 6) with
          | none => none
          | some x => if 56320 ≤ x ∧ x < 57344 then some ((v - 55296) * 1024 + (x - 56320) + 65536, r.drop 10) else none
        else none
    else none

/-- A text's rest, behind what was read of it. -/
def txt : Nat → List UInt8 → List UInt8 → Option (List UInt8 × List UInt8)
  | 0, _, _ => none
  | f + 1, s, o =>
    match s with
    | [] => none
    | c :: r =>
      if c = 34 then some (o, r)
      else if c.toNat < 32 then none
      else if c = 92 then
        match esc r with
        | none => none
        | some (v, r2) => txt f r2 (o ++ rbytes v)
      else if (rune s).2 = 0 then none
      else txt f (s.drop (rune s).2) (o ++ s.take (rune s).2)
def text : List UInt8 → Option (List UInt8 × List UInt8)
  | [] => none
  | c :: r => if c = 34 then txt (r.length + 1) r [] else none

def isD (c : UInt8) : Bool := 48 ≤ c.toNat && c.toNat ≤ 57
def valD (ds : List UInt8) : Nat := ds.foldl (fun v c => v * 10 + (c.toNat - 48)) 0
def maxWhole : Nat := 9007199254740991
/-- A whole number, and what is left behind it. -/
def num (s : List UInt8) : Option (Int × List UInt8) :=
  let minus := [45] <+: s
  let r := if minus then s.drop 1 else s
  let ds := r.takeWhile isD
  if ds = [] ∨ (ds.head? = some 48 ∧ (1 < ds.length ∨ minus)) ∨ maxWhole < valD ds then none
  else some (if minus then -(valD ds : Int) else valD ds, r.dropWhile isD)

inductive Res where
  | ok (v : GV) (rest : List UInt8)
  | err (code : Int)

def wNull : List UInt8 := [110, 117, 108, 108]
def wTrue : List UInt8 := [116, 114, 117, 101]
def wFalse : List UInt8 := [102, 97, 108, 115, 101]

/-- The elements of a list or the members of a map, from the first one on, behind those that were read. -/
def items (val : List UInt8 → Res) (list : Bool) : Nat → List UInt8 → List GV → List (List UInt8 × GV) → Res
  | 0, _, _, _ => .err 8
  | f + 1, s, l, m =>
    let shut : UInt8 := if list then 93 else 125
    let hd : Option (List UInt8 × List UInt8) := if list then some ([], s) else
      match text (blk s) with
      | none => none
      | some (nm, r) => if (m.any fun x => x.1 == nm) then none else match blk r with
        | [] => none
        | c :: r2 => if c = 58 then some (nm, r2) else none
    match hd with
    | none => .err 8
    | some (nm, s2) =>
      match val s2 with
      | .err e => .err e
      | .ok x r =>
        let l2 := if list then l ++ [x] else l
        let m2 := if list then m else m ++ [(nm, x)]
        match blk r with
        | [] => .err 8
        | c :: r2 => if c = shut then .ok (if list then vList l2 else vMap m2) r2 else if c = 44 then items val list f r2 l2 m2 else .err 8

/-- A value that may be so deep, and what is left behind it. -/
def val : Nat → List UInt8 → Res
  | 0, _ => .err 3
  | d + 1, s =>
    let s := blk s
    if wNull <+: s then .ok vNull (s.drop 4)
    else if wTrue <+: s then .ok (vBool true) (s.drop 4)
    else if wFalse <+: s then .ok (vBool false) (s.drop 5)
    else match s with
      | [] => .err 8
      | c :: r =>
        if c = 91 ∨ c = 123 then
          match blk r with
          | [] => items (val d) (c = 91) (r.length + 1) [] [] []
          | e :: r2 => if e = (if c = 91 then 93 else 125) then .ok (if c = 91 then vList [] else vMap []) r2 else items (val d) (c = 91) (r.length + 1) (e :: r2) [] []
        else if c = 34 then
          match text s with
          | none => .err 8
          | some (t, r) => .ok (vText t) r
        else match num s with
          | none => .err 8
          | some (n, r) => .ok (vNum n) r

/-- What bytes are read as: a value, or a code. -/
def parse (b : List UInt8) : Res :=
  if 65536 < b.length then .err 3
  else match val 16 b with
    | .err e => .err e
    | .ok v r => if blk r = [] then .ok v [] else .err 8

end M

end Go.Proofs.YtbgadfaiehkanaaGreatDoor

namespace Go.Proofs.YtbgadfaiehkanaaGreatDoor
set_option linter.unusedVariables false
set_option maxRecDepth 100000

namespace M

/-- A number behind which no stroke stands. -/
def num2 (s : List UInt8) : Option (Int × List UInt8) :=
  match num s with
  | none => none
  | some (v, r) => if r.head? = some 45 then none else some (v, r)

/-- How a part ends. -/
inductive PR (α : Type) where
  | ok (a : α) (r : List UInt8)
  | err (c : Int)

def loopG {α : Type} (step : List UInt8 → α → PR α) (shut : UInt8) : Nat → List UInt8 → α → PR α
  | 0, _, _ => .err 8
  | f + 1, s, a =>
    match step s a with
    | .err c => .err c
    | .ok a2 r =>
      match r with
      | [] => .err 8
      | c :: r2 => if c = shut then .ok a2 r2 else if c = 44 then loopG step shut f r2 a2 else .err 8

def partsG {α : Type} (step : List UInt8 → α → PR α) (shut : UInt8) (s : List UInt8) (a : α) : PR α :=
  match blk s with
  | [] => loopG step shut (s.length + 1) [] a
  | c :: r => if c = shut then .ok a r else loopG step shut (s.length + 1) (c :: r) a

def lstep (val : List UInt8 → Res) (s : List UInt8) (l : List GV) : PR (List GV) :=
  match val s with
  | .err c => .err c
  | .ok x r => .ok (l ++ [x]) (blk r)

/-- A member behind its name. -/
def mtail (val : List UInt8 → Res) (nm : List UInt8) (m : List (List UInt8 × GV)) : List UInt8 → PR (List (List UInt8 × GV))
  | [] => .err 8
  | c :: r => if c = 58 then (match val r with | .err e => .err e | .ok x r2 => .ok (m ++ [(nm, x)]) (blk r2)) else .err 8

/-- A member behind its name's first mark. -/
def mname (val : List UInt8 → Res) (r : List UInt8) (m : List (List UInt8 × GV)) : PR (List (List UInt8 × GV)) :=
  match txt (r.length + 1) r [] with
  | none => .err 8
  | some (nm, r1) => if (m.any fun x => x.1 == nm) then .err 8 else mtail val nm m (blk r1)

def mstep (val : List UInt8 → Res) (s : List UInt8) (m : List (List UInt8 × GV)) : PR (List (List UInt8 × GV)) :=
  match blk s with
  | [] => .err 8
  | c :: r => if c = 34 then mname val r m else .err 8

def PR.toRes {α : Type} (f : α → GV) : PR α → Res
  | .ok a r => .ok (f a) r
  | .err c => .err c

def resT : Option (List UInt8 × List UInt8) → Res
  | none => .err 8
  | some (t, r) => .ok (vText t) r
def resN : Option (Int × List UInt8) → Res
  | none => .err 8
  | some (n, r) => .ok (vNum n) r

def bare (val : List UInt8 → Res) (s : List UInt8) : Res :=
  if wNull <+: s then .ok vNull (s.drop 4)
  else if wTrue <+: s then .ok (vBool true) (s.drop 4)
  else if wFalse <+: s then .ok (vBool false) (s.drop 5)
  else match s with
    | [] => .err 8
    | c :: r =>
      if c = 34 then resT (txt (r.length + 1) r [])
      else if c = 91 then (partsG (lstep val) 93 r []).toRes vList
      else if c = 123 then (partsG (mstep val) 125 r []).toRes vMap
      else resN (num2 (c :: r))

def val2 : Nat → List UInt8 → Res
  | 0, _ => .err 3
  | d + 1, s => bare (val2 d) (blk s)

def parse2 (b : List UInt8) : Res :=
  if 65536 < b.length then .err 3
  else match val2 16 b with
    | .err e => .err e
    | .ok v r => if blk r = [] then .ok v [] else .err 8

end M

end Go.Proofs.YtbgadfaiehkanaaGreatDoor

namespace Go.Proofs.YtbgadfaiehkanaaGreatDoor
set_option linter.unusedVariables false
set_option maxRecDepth 100000

namespace M

theorem valD_snocJ (l : List UInt8) (c : UInt8) : valD (l ++ [c]) = valD l * 10 + (c.toNat - 48) := by
  unfold valD
  rw [List.foldl_append]
  rfl

theorem dig_toNat {k : Nat} (h : k < 10) : (UInt8.ofNat (48 + k)).toNat = 48 + k := by
  rw [UInt8.toNat_ofNat']
  omega

theorem isD_iff (c : UInt8) : isD c = true ↔ 48 ≤ c.toNat ∧ c.toNat ≤ 57 := by
  unfold isD
  simp

/-- What the digits of a number are. -/
theorem dec_facts (u : Nat) : (∀ c ∈ Lib.decDigits u, isD c = true) ∧ valD (Lib.decDigits u) = u ∧ Lib.decDigits u ≠ [] ∧ ((Lib.decDigits u).head? = some 48 → u = 0) := by
  induction u using Nat.strongRecOn with
  | ind u ih =>
    rw [Lib.decDigits]
    by_cases h : u < 10
    · rw [dif_pos h]
      have ht := dig_toNat h
      refine ⟨?_, ?_, by simp, ?_⟩
      · intro c hc
        rw [List.mem_singleton] at hc
        rw [hc, isD_iff, ht]
        omega
      · show 0 * 10 + ((UInt8.ofNat (48 + u)).toNat - 48) = u
        rw [ht]; omega
      · intro hh
        simp only [List.head?_cons, Option.some.injEq] at hh
        have := congrArg UInt8.toNat hh
        rw [ht] at this
        have h48 : (48 : UInt8).toNat = 48 := rfl
        omega
    · rw [dif_neg h]
      obtain ⟨h1, h2, h3, h4⟩ := ih (u / 10) (by omega)
      have hm : u % 10 < 10 := Nat.mod_lt _ (by omega)
      have ht := dig_toNat hm
      refine ⟨?_, ?_, by simp, ?_⟩
      · intro c hc
        rcases List.mem_append.1 hc with hc | hc
        · exact h1 c hc
        · rw [List.mem_singleton] at hc
          rw [hc, isD_iff, ht]
          omega
      · rw [valD_snocJ, h2, ht]
        omega
      · intro hh
        cases hd : Lib.decDigits (u / 10) with
        | nil => exact absurd hd h3
        | cons a b =>
          rw [hd] at hh h4
          have := h4 hh
          omega

theorem valD_pos : ∀ (l : List UInt8), l ≠ [] → (∀ c ∈ l, isD c = true) → l.head? ≠ some 48 → 0 < valD l := by
  have h : ∀ (n : Nat) (l : List UInt8), l.length = n → l ≠ [] → (∀ c ∈ l, isD c = true) → l.head? ≠ some 48 → 0 < valD l := by
    intro n
    induction n with
    | zero => intro l hl hn _ _; exact absurd (List.eq_nil_of_length_eq_zero hl) hn
    | succ n ih =>
      intro l hl hn hd hh
      rw [← List.dropLast_concat_getLast hn] at hl hd hh ⊢
      generalize l.dropLast = i at hl hd hh ⊢
      generalize l.getLast hn = c at hl hd hh ⊢
      rw [valD_snocJ]
      cases i with
      | nil =>
        have hc := (isD_iff c).1 (hd c (by simp))
        have : c.toNat ≠ 48 := fun e => hh (by simp; exact UInt8.toNat_inj.1 e)
        omega
      | cons a b =>
        have := ih (a :: b) (by simp at hl ⊢; omega) (by simp) (fun x hx => hd x (List.mem_append_left _ hx)) (by simpa using hh)
        omega
  exact fun l => h l.length l rfl

/-- Digits with no zero ahead are those of their number. -/
theorem dec_valD : ∀ (n : Nat) (l : List UInt8), l.length = n → l ≠ [] → (∀ c ∈ l, isD c = true) → (l.head? = some 48 → l.length = 1) → Lib.decDigits (valD l) = l := by
  intro n
  induction n with
  | zero => intro l hl hn _ _; exact absurd (List.eq_nil_of_length_eq_zero hl) hn
  | succ n ih =>
    intro l hl hn hd hh
    rw [← List.dropLast_concat_getLast hn] at hl hd hh ⊢
    generalize l.dropLast = i at hl hd hh ⊢
    generalize l.getLast hn = c at hl hd hh ⊢
    have hc := (isD_iff c).1 (hd c (by simp))
    have hcc : UInt8.ofNat (48 + (c.toNat - 48)) = c := by
      apply UInt8.toNat_inj.1
      rw [dig_toNat (by omega)]
      omega
    rw [valD_snocJ]
    cases i with
    | nil =>
      have h0 : valD [] * 10 + (c.toNat - 48) = c.toNat - 48 := by show 0 * 10 + _ = _; omega
      rw [h0, Lib.decDigits, dif_pos (by omega), hcc]
      rfl
    | cons a b =>
      have hx : (a :: b).head? ≠ some 48 := fun e => by
        have := hh (by simpa using e)
        simp at this
      have hp := valD_pos (a :: b) (by simp) (fun x hx => hd x (List.mem_append_left _ hx)) hx
      rw [Lib.decDigits, dif_neg (by omega)]
      have e1 : (valD (a :: b) * 10 + (c.toNat - 48)) / 10 = valD (a :: b) := by omega
      have e2 : (valD (a :: b) * 10 + (c.toNat - 48)) % 10 = c.toNat - 48 := by omega
      rw [e1, e2, hcc, ih (a :: b) (by simp at hl ⊢; omega) (by simp) (fun x hx => hd x (List.mem_append_left _ hx)) (fun e => absurd e hx)]

theorem takeWhile_dig (l r : List UInt8) (hl : ∀ c ∈ l, isD c = true) (hr : ∀ c, r.head? = some c → isD c = false) : (l ++ r).takeWhile isD = l ∧ (l ++ r).dropWhile isD = r := by
  induction l with
  | nil =>
    cases r with
    | nil => exact ⟨rfl, rfl⟩
    | cons c r =>
      have := hr c rfl
      simp [this]
  | cons a l ih =>
    have h1 := hl a (by simp)
    obtain ⟨h2, h3⟩ := ih (fun c hc => hl c (List.mem_cons_of_mem _ hc))
    simp [h1, h2, h3]

/-- A number that was written is read, whatever stands behind, if that begins with no digit. -/
theorem num_itoa (v : Int) (hv : v ≤ 9007199254740991) (hv2 : -9007199254740991 ≤ v) (r : List UInt8) (hr : ∀ c, r.head? = some c → isD c = false) : num (Lib.itoa v ++ r) = some (v, r) := by
  unfold Lib.itoa
  by_cases hn : v < 0
  · rw [if_pos hn]
    obtain ⟨h1, h2, h3, h4⟩ := dec_facts v.natAbs
    generalize hd : Lib.decDigits v.natAbs = ds at h1 h2 h3 h4
    obtain ⟨t1, t2⟩ := takeWhile_dig ds r h1 hr
    unfold num
    have hm : [45] <+: (45 :: ds) ++ r := ⟨ds ++ r, rfl⟩
    dsimp only
    rw [if_pos hm]
    have hdr : ((45 :: ds) ++ r).drop 1 = ds ++ r := rfl
    rw [hdr, t1, t2, if_neg, if_pos hm, h2]
    · congr 2
      omega
    · rintro (h | h | h)
      · exact h3 h
      · have := h4 h.1; omega
      · rw [h2] at h; unfold maxWhole at h; omega
  · rw [if_neg hn]
    obtain ⟨h1, h2, h3, h4⟩ := dec_facts v.toNat
    have h5 : v.toNat = 0 → (Lib.decDigits v.toNat).length = 1 := by
      intro h
      rw [h, Lib.decDigits, dif_pos (by omega)]
      rfl
    generalize hd : Lib.decDigits v.toNat = ds at h1 h2 h3 h4 h5
    obtain ⟨t1, t2⟩ := takeWhile_dig ds r h1 hr
    unfold num
    have hm : ¬ [45] <+: ds ++ r := by
      cases ds with
      | nil => exact absurd rfl h3
      | cons a b =>
        rintro ⟨t, ht⟩
        have ha := (isD_iff a).1 (h1 a (by simp))
        simp only [List.cons_append, List.nil_append, List.cons.injEq] at ht
        rw [← ht.1] at ha
        have h45 : (45 : UInt8).toNat = 45 := rfl
        omega
    dsimp only
    rw [if_neg hm]
    rw [t1, t2, if_neg, if_neg hm, h2]
    · congr 2
      omega
    · rintro (h | h | h)
      · exact h3 h
      · have := h5 (h4 h.1)
        rcases h.2 with h | h
        · omega
        · exact hm h
      · rw [h2] at h; unfold maxWhole at h; omega

theorem drop_head : ∀ (t : List UInt8) (a : UInt8) (b : List UInt8), t.dropWhile isD = a :: b → isD a = false
  | [], a, b, h => by cases h
  | c :: t, a, b, h => by
    by_cases hc : isD c = true
    · rw [List.dropWhile_cons_of_pos hc] at h
      exact drop_head t a b h
    · rw [List.dropWhile_cons_of_neg hc] at h
      injection h with h _
      rw [← h]
      simpa using hc
theorem take_mem : ∀ (t : List UInt8) (c : UInt8), c ∈ t.takeWhile isD → isD c = true
  | [], c, h => by cases h
  | d :: t, c, h => by
    by_cases hc : isD d = true
    · rw [List.takeWhile_cons_of_pos hc] at h
      rcases List.mem_cons.1 h with h | h
      · rw [h]; exact hc
      · exact take_mem t c h
    · rw [List.takeWhile_cons_of_neg hc] at h
      cases h

/-- What was read as a number was written so. -/
theorem itoa_num {s r : List UInt8} {v : Int} (h : num s = some (v, r)) : s = Lib.itoa v ++ r ∧ v ≤ 9007199254740991 ∧ -9007199254740991 ≤ v ∧ (∀ c, r.head? = some c → isD c = false) := by
  unfold num at h
  dsimp only at h
  generalize hrr : (if [45] <+: s then s.drop 1 else s) = t at h
  have hsplit := List.takeWhile_append_dropWhile (p := isD) (l := t)
  have hdrop : ∀ c, (t.dropWhile isD).head? = some c → isD c = false := by
    intro c hc
    cases hd : t.dropWhile isD with
    | nil => rw [hd] at hc; cases hc
    | cons a b =>
      rw [hd] at hc
      simp only [List.head?_cons, Option.some.injEq] at hc
      subst hc
      exact drop_head t a b hd
  have hall : ∀ c ∈ t.takeWhile isD, isD c = true := fun c hc => take_mem t c hc
  generalize hds : t.takeWhile isD = ds at h hsplit hall
  generalize hdr : t.dropWhile isD = rr at h hsplit hdrop
  by_cases hc : ds = [] ∨ ds.head? = some 48 ∧ (1 < ds.length ∨ [45] <+: s) ∨ maxWhole < valD ds
  · rw [if_pos hc] at h; cases h
  rw [if_neg hc] at h
  have c1 : ds ≠ [] := fun e => hc (.inl e)
  have c2 : ds.head? = some 48 → ds.length = 1 ∧ ¬ [45] <+: s := fun e => by
    have hl : ds.length ≠ 0 := fun e => c1 (List.eq_nil_of_length_eq_zero e)
    refine ⟨?_, fun hm => hc (.inr (.inl ⟨e, .inr hm⟩))⟩
    have : ¬ 1 < ds.length := fun hm => hc (.inr (.inl ⟨e, .inl hm⟩))
    omega
  have c3 : valD ds ≤ 9007199254740991 := by
    have : ¬ maxWhole < valD ds := fun e => hc (.inr (.inr e))
    unfold maxWhole at this
    omega
  injection h with h
  injection h with h1 h2
  subst h2
  have hdec := dec_valD ds.length ds rfl c1 hall (fun e => (c2 e).1)
  refine ⟨?_, ?_, ?_, hdrop⟩
  · by_cases hm : [45] <+: s
    · rw [if_pos hm] at h1 hrr
      have hp : 0 < valD ds := by
        rcases Nat.eq_zero_or_pos (valD ds) with e | e
        · have := (dec_facts (valD ds)).2.2.2
          rw [e] at hdec
          rw [Lib.decDigits, dif_pos (by omega)] at hdec
          exact absurd hm (c2 (by rw [← hdec]; rfl)).2
        · exact e
      obtain ⟨q, hq⟩ := hm
      subst hq
      have ht : t = q := hrr.symm
      unfold Lib.itoa
      rw [← h1, if_pos (by omega)]
      have : (-(valD ds : Int)).natAbs = valD ds := by omega
      rw [this, hdec, ← ht, ← hsplit]
      rfl
    · rw [if_neg hm] at h1 hrr
      unfold Lib.itoa
      rw [← h1, if_neg (by omega)]
      have : ((valD ds : Int)).toNat = valD ds := by omega
      rw [this, hdec, hrr, hsplit]
  · rw [← h1]; split <;> omega
  · rw [← h1]; split <;> omega

theorem parseU_dec : ∀ (ds : List UInt8) (acc : Nat), (∀ c ∈ ds, isD c = true) → ds.foldl (fun v c => v * 10 + (c.toNat - 48)) acc ≤ 9007199254740991 → Lib.parseUintM (2 ^ 64 - 1) acc ds = .ok (ds.foldl (fun v c => v * 10 + (c.toNat - 48)) acc) := by
  intro ds
  induction ds with
  | nil => intro acc _ _; rfl
  | cons c r ih =>
    intro acc hd hb
    have hc := (isD_iff c).1 (hd c (by simp))
    have hmono : ∀ (l : List UInt8) (x : Nat), x ≤ l.foldl (fun v c => v * 10 + (c.toNat - 48)) x := by
      intro l
      induction l with
      | nil => intro x; exact Nat.le_refl _
      | cons a b ihb => intro x; exact Nat.le_trans (by omega) (ihb (x * 10 + (a.toNat - 48)))
    have h1 := hmono r (acc * 10 + (c.toNat - 48))
    have hb2 : r.foldl (fun v c => v * 10 + (c.toNat - 48)) (acc * 10 + (c.toNat - 48)) ≤ 9007199254740991 := hb
    unfold Lib.parseUintM
    rw [if_pos hc, if_neg (by omega), if_neg (by omega)]
    exact ih _ (fun x hx => hd x (List.mem_cons_of_mem _ hx)) hb2

/-- What is written is parsed. -/
theorem parse_itoa (v : Int) (hv : v ≤ 9007199254740991) (hv2 : -9007199254740991 ≤ v) : Lib.parseIntB 64 (Lib.itoa v) = .ok v := by
  unfold Lib.itoa
  by_cases hn : v < 0
  · rw [if_pos hn]
    obtain ⟨h1, h2, h3, h4⟩ := dec_facts v.natAbs
    generalize hd : Lib.decDigits v.natAbs = ds at h1 h2 h3 h4
    have hp := parseU_dec ds 0 h1 (by rw [show ds.foldl (fun v c => v * 10 + (c.toNat - 48)) 0 = valD ds from rfl, h2]; omega)
    rw [show ds.foldl (fun v c => v * 10 + (c.toNat - 48)) 0 = valD ds from rfl, h2] at hp
    unfold Lib.parseIntB Lib.parseUintB
    have e45 : (45 : UInt8).toNat = 45 := rfl
    simp only [e45, or_true, if_true]
    rw [if_neg h3, hp]
    simp only [not_true, false_and, if_false, true_and]
    rw [if_neg (by omega)]
    congr 1
    omega
  · rw [if_neg hn]
    obtain ⟨h1, h2, h3, h4⟩ := dec_facts v.toNat
    generalize hd : Lib.decDigits v.toNat = ds at h1 h2 h3 h4
    have hp := parseU_dec ds 0 h1 (by rw [show ds.foldl (fun v c => v * 10 + (c.toNat - 48)) 0 = valD ds from rfl, h2]; omega)
    rw [show ds.foldl (fun v c => v * 10 + (c.toNat - 48)) 0 = valD ds from rfl, h2] at hp
    cases ds with
    | nil => exact absurd rfl h3
    | cons a b =>
      have ha := (isD_iff a).1 (h1 a (by simp))
      unfold Lib.parseIntB Lib.parseUintB
      dsimp only
      rw [if_neg (show ¬ (a.toNat = 43 ∨ a.toNat = 45) by omega), if_neg h3, hp]
      dsimp only
      rw [if_neg (by omega), if_neg (by omega), if_neg (by omega)]
      congr 1
      omega

end M

end Go.Proofs.YtbgadfaiehkanaaGreatDoor
