/-
  Merged texts of the base: Shelf Shelg LxRefa LxRefb LxRefc LxRefd LxRefe LxReff LxRefg LxTab LxCodea LxCodeb LxCodec LxCoded LxCodee LxSym LxCodef LxCodeg LexP.
-/
import Derived.Test.YtbgpboiblggmiaaGreatDoorQBaseP
import Derived.Shelf.Strconv.Atoi
import Derived.Shelf.Strings.Search1
import Derived.Shelf.Strings.Search2
import Derived.Shelf.Strings.Search3
import Derived.Shelf.Strings.Count
import Derived.Shelf.LaysM
import Derived.Shelf.Strings.Shaped
import Derived.Shelf.Strings.Split
import Derived.Shelf.Unicode.DecodeSlow
import Derived.Test.YtbgpboiblggmiaaGreatDoorProg
import Derived.WalkKit
import Derived.WalkSpells
import Derived.Lib.Hide
import Derived.Lib.Strings
import Derived.WalkLawsBesides
import Derived.OwnWalk
import Derived.KernelRfl
import Derived.Lib.LaidTab
import Derived.Deep.LoopGhost
import Derived.Deep.QuietTactic
import Derived.BigQuiet
import Derived.WalkMore
import Derived.WalkSmall
import Derived.IntWalk

set_option linter.unusedVariables false
set_option linter.unusedSimpArgs false
/-
  DERIVED: THE SHELF's CONTRACTS AT THIS DUMP, IN PLAIN WORDS (tools/lay-plain.mjs out of 'TryzShelf.lean', which tools/lay-shelf.mjs wrote): THE SAME DECLARATIONS UNDER THE SAME NAMES: 'import', 'namespace', 'open', 'def', 'theorem' AND NOTHING ELSE: no command of the shelf's: FOR A HAND-IN. Each laying: the table of numbers ('.._ren') and one theorem, a field a fact of the dump's own or the kernel's comparison; each contract: ONE APPLICATION.
-/
namespace Go.Proofs
open Go.Shelf
def Tryz.lays172_ren : Go.Shelf.Ren := ⟨fun | 172 => 144 | 244 => 161 | 245 => 162 | 247 => 170 | 279 => 171 | 280 => 172 | 281 => 173 | 282 => 174 | 287 => 189 | 316 => 190 | 171 => 192 | 205 => 191 | 321 => 199 | 322 => 200 | 243 => 201 | 246 => 202 | 283 => 203 | 284 => 204 | 285 => 205 | 286 => 206 | 129 => 208 | 317 => 207 | 318 => 209 | 319 => 210 | 320 => 211 | 337 => 212 | 338 => 213 | n => n, fun | 9 => 9 | 3 => 3 | 75 => 117 | 76 => 118 | 4 => 4 | 5 => 5 | 167 => 127 | 37 => 47 | 0 => 0 | 85 => 128 | 2 => 2 | 168 => 130 | 53 => 137 | 175 => 138 | 46 => 134 | 210 => 142 | 127 => 149 | 145 => 152 | 143 => 150 | 21 => 21 | 171 => 158 | 173 => 161 | 212 => 164 | 51 => 145 | 20 => 20 | 213 => 165 | 232 => 168 | 233 => 169 | 80 => 109 | n => n, fun | 15 => 2 | 16 => 3 | 17 => 6 | 18 => 7 | 19 => 8 | n => n⟩
theorem Tryz.lays172 : Go.Proofs.Lays.n172 Tryz.prog Tryz.lays172_ren := {
  mixed := by kernel_rfl
  f129 := Tryz.func208.trans (congrArg some (by kernel_rfl))
  f171 := Tryz.func192.trans (congrArg some (by kernel_rfl))
  f172 := Tryz.func144.trans (congrArg some (by kernel_rfl))
  f205 := Tryz.func191.trans (congrArg some (by kernel_rfl))
  f243 := Tryz.func201.trans (congrArg some (by kernel_rfl))
  f244 := Tryz.func161.trans (congrArg some (by kernel_rfl))
  f245 := Tryz.func162.trans (congrArg some (by kernel_rfl))
  f246 := Tryz.func202.trans (congrArg some (by kernel_rfl))
  f247 := Tryz.func170.trans (congrArg some (by kernel_rfl))
  f279 := Tryz.func171.trans (congrArg some (by kernel_rfl))
  f280 := Tryz.func172.trans (congrArg some (by kernel_rfl))
  f281 := Tryz.func173.trans (congrArg some (by kernel_rfl))
  f282 := Tryz.func174.trans (congrArg some (by kernel_rfl))
  f283 := Tryz.func203.trans (congrArg some (by kernel_rfl))
  f284 := Tryz.func204.trans (congrArg some (by kernel_rfl))
  f285 := Tryz.func205.trans (congrArg some (by kernel_rfl))
  f286 := Tryz.func206.trans (congrArg some (by kernel_rfl))
  f287 := Tryz.func189.trans (congrArg some (by kernel_rfl))
  f316 := Tryz.func190.trans (congrArg some (by kernel_rfl))
  f317 := Tryz.func207.trans (congrArg some (by kernel_rfl))
  f318 := Tryz.func209.trans (congrArg some (by kernel_rfl))
  f319 := Tryz.func210.trans (congrArg some (by kernel_rfl))
  f320 := Tryz.func211.trans (congrArg some (by kernel_rfl))
  f321 := Tryz.func199.trans (congrArg some (by kernel_rfl))
  f322 := Tryz.func200.trans (congrArg some (by kernel_rfl))
  f337 := Tryz.func212.trans (congrArg some (by kernel_rfl))
  f338 := Tryz.func213.trans (congrArg some (by kernel_rfl))
  t0 := Tryz.underlying0
  a0 := Tryz.isAgg0
  z0 := Tryz.sizeOf0
  v0 := Tryz.zeroValue0
  t2 := Tryz.underlying2
  a2 := Tryz.isAgg2
  z2 := Tryz.sizeOf2
  v2 := Tryz.zeroValue2
  t3 := Tryz.underlying3
  a3 := Tryz.isAgg3
  z3 := Tryz.sizeOf3
  v3 := Tryz.zeroValue3
  t4 := Tryz.underlying4
  a4 := Tryz.isAgg4
  z4 := Tryz.sizeOf4
  v4 := Tryz.zeroValue4
  t5 := Tryz.underlying5
  a5 := Tryz.isAgg5
  z5 := Tryz.sizeOf5
  v5 := Tryz.zeroValue5
  t9 := Tryz.underlying9
  a9 := Tryz.isAgg9
  z9 := Tryz.sizeOf9
  v9 := Tryz.zeroValue9
  t20 := Tryz.underlying20
  a20 := Tryz.isAgg20
  z20 := Tryz.sizeOf20
  v20 := Tryz.zeroValue20
  t21 := Tryz.underlying21
  a21 := Tryz.isAgg21
  z21 := Tryz.sizeOf21
  v21 := Tryz.zeroValue21
  t37 := Tryz.underlying47
  a37 := Tryz.isAgg47
  z37 := Tryz.sizeOf47
  v37 := Tryz.zeroValue47
  t46 := Tryz.underlying134
  a46 := Tryz.isAgg134
  z46 := Tryz.sizeOf134
  v46 := Tryz.zeroValue134
  t51 := Tryz.underlying145
  a51 := Tryz.isAgg145
  z51 := Tryz.sizeOf145
  v51 := Tryz.zeroValue145
  t53 := Tryz.underlying137
  a53 := Tryz.isAgg137
  z53 := Tryz.sizeOf137
  v53 := Tryz.zeroValue137
  t75 := Tryz.underlying117
  a75 := Tryz.isAgg117
  z75 := Tryz.sizeOf117
  v75 := Tryz.zeroValue117
  t76 := Tryz.underlying118
  a76 := Tryz.isAgg118
  z76 := Tryz.sizeOf118
  v76 := Tryz.zeroValue118
  t85 := Tryz.underlying128
  a85 := Tryz.isAgg128
  z85 := Tryz.sizeOf128
  v85 := Tryz.zeroValue128
  t127 := Tryz.underlying149
  a127 := Tryz.isAgg149
  z127 := Tryz.sizeOf149
  v127 := Tryz.zeroValue149
  t143 := Tryz.underlying150
  a143 := Tryz.isAgg150
  z143 := Tryz.sizeOf150
  v143 := Tryz.zeroValue150
  t145 := Tryz.underlying152
  a145 := Tryz.isAgg152
  z145 := Tryz.sizeOf152
  v145 := Tryz.zeroValue152
  t167 := Tryz.underlying127
  a167 := Tryz.isAgg127
  z167 := Tryz.sizeOf127
  v167 := Tryz.zeroValue127
  t168 := Tryz.underlying130
  a168 := Tryz.isAgg130
  z168 := Tryz.sizeOf130
  v168 := Tryz.zeroValue130
  t171 := Tryz.underlying158
  a171 := Tryz.isAgg158
  z171 := Tryz.sizeOf158
  v171 := Tryz.zeroValue158
  t173 := Tryz.underlying161
  a173 := Tryz.isAgg161
  z173 := Tryz.sizeOf161
  v173 := Tryz.zeroValue161
  t175 := Tryz.underlying138
  a175 := Tryz.isAgg138
  z175 := Tryz.sizeOf138
  v175 := Tryz.zeroValue138
  t210 := Tryz.underlying142
  a210 := Tryz.isAgg142
  z210 := Tryz.sizeOf142
  v210 := Tryz.zeroValue142
  t212 := Tryz.underlying164
  a212 := Tryz.isAgg164
  z212 := Tryz.sizeOf164
  v212 := Tryz.zeroValue164
  t213 := Tryz.underlying165
  a213 := Tryz.isAgg165
  z213 := Tryz.sizeOf165
  t232 := Tryz.underlying168
  a232 := Tryz.isAgg168
  z232 := Tryz.sizeOf168
  v232 := Tryz.zeroValue168
  t233 := Tryz.underlying169
  a233 := Tryz.isAgg169
  z233 := Tryz.sizeOf169
  v233 := Tryz.zeroValue169
  g15 := by kernel_rfl
  g16 := by kernel_rfl
  g17 := by kernel_rfl
  g18 := by kernel_rfl
  g19 := by kernel_rfl }
open Go.RowKit in
/-- strconv.Atoi: "Atoi is equivalent to ParseInt(s, 10, 0), converted to type int.": AT A DECIMAL NUMERAL OF AT MOST 18 BYTES: its value, and a nil error. The world behind the call: the one new row that the library's '[]byte(s)' lays. (LAID: no walk: one application.) -/
theorem Tryz.strconv_Atoi (s : ByteArray) (n : Int) (hl : s.size ≤ 18) (h : Lib.atoi s.data.toList = some n) (w : World) :
    Calls Tryz.prog 144 #[.string s] w fun e w' => e = .returned (.tuple #[.int .i64 n, .nilIface]) ∧ ∃ t, w' = Lib.bytesWorld w 5 t := Any.strconv_Atoi Tryz.lays172 s n hl h w
def Tryz.lays138_ren : Go.Shelf.Ren := ⟨fun | 138 => 142 | 195 => 157 | 218 => 158 | 143 => 159 | 219 => 168 | 217 => 184 | 225 => 185 | 224 => 186 | 267 => 187 | 266 => 196 | 314 => 197 | n => n, fun | 9 => 9 | 3 => 3 | 4 => 4 | 5 => 5 | 0 => 0 | 46 => 134 | 146 => 146 | 51 => 145 | n => n, fun | 1 => 1 | n => n⟩
theorem Tryz.lays138 : Go.Proofs.Lays.n138 Tryz.prog Tryz.lays138_ren := {
  mixed := by kernel_rfl
  f138 := Tryz.func142.trans (congrArg some (by kernel_rfl))
  f143 := Tryz.func159.trans (congrArg some (by kernel_rfl))
  f195 := Tryz.func157.trans (congrArg some (by kernel_rfl))
  f217 := Tryz.func184.trans (congrArg some (by kernel_rfl))
  f218 := Tryz.func158.trans (congrArg some (by kernel_rfl))
  f219 := Tryz.func168.trans (congrArg some (by kernel_rfl))
  f224 := Tryz.func186.trans (congrArg some (by kernel_rfl))
  f225 := Tryz.func185.trans (congrArg some (by kernel_rfl))
  f266 := Tryz.func196.trans (congrArg some (by kernel_rfl))
  f267 := Tryz.func187.trans (congrArg some (by kernel_rfl))
  f314 := Tryz.func197.trans (congrArg some (by kernel_rfl))
  t0 := Tryz.underlying0
  a0 := Tryz.isAgg0
  z0 := Tryz.sizeOf0
  v0 := Tryz.zeroValue0
  t3 := Tryz.underlying3
  a3 := Tryz.isAgg3
  z3 := Tryz.sizeOf3
  v3 := Tryz.zeroValue3
  t4 := Tryz.underlying4
  a4 := Tryz.isAgg4
  z4 := Tryz.sizeOf4
  v4 := Tryz.zeroValue4
  t5 := Tryz.underlying5
  a5 := Tryz.isAgg5
  z5 := Tryz.sizeOf5
  v5 := Tryz.zeroValue5
  t9 := Tryz.underlying9
  a9 := Tryz.isAgg9
  z9 := Tryz.sizeOf9
  v9 := Tryz.zeroValue9
  t46 := Tryz.underlying134
  a46 := Tryz.isAgg134
  z46 := Tryz.sizeOf134
  v46 := Tryz.zeroValue134
  t51 := Tryz.underlying145
  a51 := Tryz.isAgg145
  z51 := Tryz.sizeOf145
  v51 := Tryz.zeroValue145
  t146 := Tryz.underlying146
  a146 := Tryz.isAgg146
  z146 := Tryz.sizeOf146
  v146 := Tryz.zeroValue146
  g1 := by kernel_rfl }
open Go.RowKit Go.Lib in
/-- strings.Count AT A substr OF ONE BYTE ('hp'): "Count counts the number of non-overlapping instances of substr in s.": IT RETURNS 'Lib.countByte s (that byte)'; the world is as it was. ✋ NO CONTRACT HERE YET at an empty substr (utf8.RuneCountInString) or at a longer one (a loop over strings.Index). (LAID: no walk: one application.) -/
theorem Tryz.strings_Count_one (s : ByteArray) (c : UInt8) (w : World) :
    Calls Tryz.prog 142 #[.string s, .string ⟨#[c]⟩] w fun e w' => e = .returned (.int .i64 (Lib.countByte s.data.toList c)) ∧ w' = w := Any.strings_Count_one Tryz.lays138 s c w
def Tryz.lays146_ren : Go.Shelf.Ren := ⟨fun | 146 => 143 | 221 => 160 | 268 => 169 | 138 => 142 | 143 => 159 | 195 => 157 | 197 => 188 | 218 => 158 | 219 => 168 | 260 => 198 | 217 => 184 | 225 => 185 | 224 => 186 | 267 => 187 | 266 => 196 | 314 => 197 | n => n, fun | 9 => 9 | 31 => 39 | 3 => 3 | 4 => 4 | 0 => 0 | 105 => 135 | 21 => 21 | 5 => 5 | 46 => 134 | 119 => 153 | 139 => 156 | 138 => 155 | 146 => 146 | 51 => 145 | n => n, fun | 1 => 1 | 3 => 4 | 4 => 5 | n => n⟩
theorem Tryz.lays146 : Go.Proofs.Lays.n146 Tryz.prog Tryz.lays146_ren := {
  mixed := by kernel_rfl
  f138 := Tryz.func142.trans (congrArg some (by kernel_rfl))
  f143 := Tryz.func159.trans (congrArg some (by kernel_rfl))
  f146 := Tryz.func143.trans (congrArg some (by kernel_rfl))
  f195 := Tryz.func157.trans (congrArg some (by kernel_rfl))
  f197 := Tryz.func188.trans (congrArg some (by kernel_rfl))
  f217 := Tryz.func184.trans (congrArg some (by kernel_rfl))
  f218 := Tryz.func158.trans (congrArg some (by kernel_rfl))
  f219 := Tryz.func168.trans (congrArg some (by kernel_rfl))
  f221 := Tryz.func160.trans (congrArg some (by kernel_rfl))
  f224 := Tryz.func186.trans (congrArg some (by kernel_rfl))
  f225 := Tryz.func185.trans (congrArg some (by kernel_rfl))
  f260 := Tryz.func198.trans (congrArg some (by kernel_rfl))
  f266 := Tryz.func196.trans (congrArg some (by kernel_rfl))
  f267 := Tryz.func187.trans (congrArg some (by kernel_rfl))
  f268 := Tryz.func169.trans (congrArg some (by kernel_rfl))
  f314 := Tryz.func197.trans (congrArg some (by kernel_rfl))
  t0 := Tryz.underlying0
  a0 := Tryz.isAgg0
  z0 := Tryz.sizeOf0
  v0 := Tryz.zeroValue0
  t3 := Tryz.underlying3
  a3 := Tryz.isAgg3
  z3 := Tryz.sizeOf3
  v3 := Tryz.zeroValue3
  t4 := Tryz.underlying4
  a4 := Tryz.isAgg4
  z4 := Tryz.sizeOf4
  v4 := Tryz.zeroValue4
  t5 := Tryz.underlying5
  a5 := Tryz.isAgg5
  z5 := Tryz.sizeOf5
  v5 := Tryz.zeroValue5
  t9 := Tryz.underlying9
  a9 := Tryz.isAgg9
  z9 := Tryz.sizeOf9
  v9 := Tryz.zeroValue9
  t21 := Tryz.underlying21
  a21 := Tryz.isAgg21
  z21 := Tryz.sizeOf21
  v21 := Tryz.zeroValue21
  t31 := Tryz.underlying39
  a31 := Tryz.isAgg39
  z31 := Tryz.sizeOf39
  v31 := Tryz.zeroValue39
  t46 := Tryz.underlying134
  a46 := Tryz.isAgg134
  z46 := Tryz.sizeOf134
  v46 := Tryz.zeroValue134
  t51 := Tryz.underlying145
  a51 := Tryz.isAgg145
  z51 := Tryz.sizeOf145
  v51 := Tryz.zeroValue145
  t105 := Tryz.underlying135
  a105 := Tryz.isAgg135
  z105 := Tryz.sizeOf135
  v105 := Tryz.zeroValue135
  t119 := Tryz.underlying153
  a119 := Tryz.isAgg153
  z119 := Tryz.sizeOf153
  t138 := Tryz.underlying155
  a138 := Tryz.isAgg155
  z138 := Tryz.sizeOf155
  v138 := Tryz.zeroValue155
  t139 := Tryz.underlying156
  a139 := Tryz.isAgg156
  z139 := Tryz.sizeOf156
  v139 := Tryz.zeroValue156
  t146 := Tryz.underlying146
  a146 := Tryz.isAgg146
  z146 := Tryz.sizeOf146
  v146 := Tryz.zeroValue146
  g1 := by kernel_rfl
  g3 := by kernel_rfl
  g4 := by kernel_rfl }
open Go.RowKit Go.Lib in
/-- strings.Split. (LAID: no walk: one application.) -/
theorem Tryz.strings_Split (s sep : ByteArray) (m : Int) (w : World) (hs : s.size < 4294967281) (hm : w.cell? ⟨1, 0, none⟩ = some (.int .i64 m)) (h1 : 1 ≤ sep.size) :
    Calls Tryz.prog 143 #[.string s, .string sep] w fun e w' =>
      e = .returned (.slice (some ⟨w.heap.size, 0, none⟩) (Lib.countB s sep + 1) (Lib.countB s sep + 1)) ∧ w' = w.alloc (.cells ((Lib.splitB sep 0 (Lib.countB s sep) s).map Value.string).toArray 9) := Any.strings_Split Tryz.lays146 (by kernel_rfl) s sep m w hs hm h1
end Go.Proofs

/-
  The contract of strings.Split stands in Shelf.
-/

/-
  Walks over the leaf functions of the reference lexer.
-/
namespace Go.Proofs.YtbgpboiblggmiaaGreatDoor
open Go.RowKit

theorem ret_bool {a b : Bool} (h : a = b) : Ending.returned (.bool a) = .returned (.bool b) := by rw [h]

set_option maxHeartbeats 400000 in
theorem white_any (c : Int) (w : World) :
    Calls Tryz.prog 73 #[.int .u8 c] w fun e w' => e = .returned (.bool (Lx.white c)) ∧ w = w' := by
  go_enter Tryz.func73, Tryz.ntmps73
  go_wp2
  all_goals go_ret
  all_goals exact ⟨ret_bool (by first | rfl | simp [Lx.white, *]), rfl⟩

theorem letter_any (c : Int) (w : World) :
    Calls Tryz.prog 74 #[.int .u8 c] w fun e w' => e = .returned (.bool (Lx.letter c)) ∧ w = w' := by
  go_enter Tryz.func74, Tryz.ntmps74
  go_wp2
  all_goals go_ret
  all_goals exact ⟨ret_bool (by rw [Bool.eq_iff_iff]; simp [Lx.letter] <;> omega), rfl⟩

theorem digit_any (c : Int) (w : World) :
    Calls Tryz.prog 76 #[.int .u8 c] w fun e w' => e = .returned (.bool (Lx.digit c)) ∧ w = w' := by
  go_enter Tryz.func76, Tryz.ntmps76
  go_wp2
  all_goals go_ret
  all_goals exact ⟨ret_bool (by rw [Bool.eq_iff_iff]; simp [Lx.digit] <;> omega), rfl⟩

theorem begins_any (s t : ByteArray) (a : Int) (w : World) (h0 : 0 ≤ a) (h1 : a ≤ s.size) (hs : s.size ≤ 4000) (ht : t.size ≤ 1000) :
    Calls Tryz.prog 72 #[.string s, .int .i64 a, .string t] w fun e w' => e = .returned (.bool (Lx.begins s.data.toList t.data.toList a.toNat)) ∧ w = w' := by
  go_enter Tryz.func72, Tryz.ntmps72
  go_wp2
  all_goals go_ret
  · refine ⟨ret_bool ?_, rfl⟩
    rw [ByteArray.toList_eq, ByteArray.toList_eq, Lib.extract_data]
    unfold Lx.begins
    rw [show (a + (t.size : Int)).toNat - a.toNat = t.size from by omega]
    rfl
  · refine ⟨ret_bool ?_, rfl⟩
    unfold Lx.begins
    symm
    apply beq_eq_false_iff_ne.2
    intro h
    have hl := congrArg List.length h
    have e1 : s.data.toList.length = s.size := rfl
    have e2 : t.data.toList.length = t.size := rfl
    rw [List.length_take, List.length_drop, e1, e2] at hl
    omega

theorem begins2 (s : ByteArray) (a : Int) (b : Bool) (w : World) (h0 : 0 ≤ a) (h1 : a ≤ s.size) (hs : s.size ≤ 4000) (hb : Lx.begins s.data.toList [47, 47] a.toNat = b) :
    Calls Tryz.prog 72 #[.string s, .int .i64 a, .string { data := #[47, 47] }] w fun e w' => e = .returned (.bool b) ∧ w = w' := by
  subst hb
  exact begins_any s { data := #[47, 47] } a w h0 h1 hs (by decide)

theorem whiteB (c : Int) (b : Bool) (w : World) (hb : Lx.white c = b) :
    Calls Tryz.prog 73 #[.int .u8 c] w fun e w' => e = .returned (.bool b) ∧ w = w' := by
  subst hb
  exact white_any c w

set_option maxHeartbeats 400000 in
theorem skip_any (s : ByteArray) (a : Nat) (w : World) (h1 : a ≤ s.size) (hs : s.size ≤ 4000) :
    Calls Tryz.prog 48 #[.string s, .int .i64 a] w fun e w' => e = .returned (.int .i64 ((a + Lx.skip false (s.data.toList.drop a) : Nat) : Int)) ∧ w = w' := by
  obtain ⟨R, hR⟩ : ∃ R, R = a + Lx.skip false (s.data.toList.drop a) := ⟨_, rfl⟩
  have HR := Lib.hid hR
  rw [← hR]
  clear hR
  go_enter Tryz.func48, Tryz.ntmps48
  go_wp2
  go_loop [1] (fun t => ∃ k : Nat, k ≤ s.size ∧ t = .int .i64 k ∧ R = k + Lx.skip false (s.data.toList.drop k)) (fun t => s.size - (intOf t).toNat)
  case atStart => exact ⟨a, h1, rfl, HR.out⟩
  case round =>
    obtain ⟨k, hk, rfl, hr⟩ := hrel
    have Hr := Lib.hid hr
    clear hr
    have hlen : s.data.toList.length = s.size := rfl
    by_cases hlt : k < s.size
    · cases hb : Lx.begins s.data.toList [47, 47] k
      · cases hw : Lx.whiteU s.data.toList[k]
        · have Hs := Lib.hid (Lx.skip_none _ _ hlt hb hw)
          go_wp2_with (first | (go_at_call 72; refine (begins2 _ _ false _ (by omega) (by omega) hs (by rw [Int.toNat_natCast]; exact hb)).mono ?_; rintro e w' ⟨rfl, rfl⟩) | (go_at_call 73; refine (whiteB _ false _ hw).mono ?_; rintro e w' ⟨rfl, rfl⟩))
          go_ret
          exact ⟨by rw [Hr.out, Hs.out]; rfl, rfl⟩
        · have Hs := Lib.hid (Lx.skip_white _ _ hlt hw)
          go_wp2_with (first | (go_at_call 72; refine (begins2 _ _ false _ (by omega) (by omega) hs (by rw [Int.toNat_natCast]; exact hb)).mono ?_; rintro e w' ⟨rfl, rfl⟩) | (go_at_call 73; refine (whiteB _ true _ hw).mono ?_; rintro e w' ⟨rfl, rfl⟩))
          go_round
          case rel => exact ⟨k + 1, by omega, by go_num, by rw [Hr.out, Hs.out]; omega⟩
          case measure => simp [intOf]; omega
      · have Hs := Lib.hid (Lx.skip_note _ _ hlt hb)
        have h47 := Lib.hid ((Lx.begins2_iff _ _ hlt).1 hb).1
        go_wp2_with (first | (go_at_call 72; refine (begins2 _ _ true _ (by omega) (by omega) hs (by rw [Int.toNat_natCast]; exact hb)).mono ?_; rintro e w' ⟨rfl, rfl⟩))
        clear hb
        go_loop [1] (fun t => ∃ j : Nat, k ≤ j ∧ j ≤ s.size ∧ t = .int .i64 j ∧ R = j + Lx.skip true (s.data.toList.drop j)) (fun t => s.size - (intOf t).toNat)
        case atStart => exact ⟨k, by omega, hk, rfl, by rw [Hr.out, Hs.out]⟩
        case round =>
          obtain ⟨j, hkj, hj, rfl, hr⟩ := hrel
          have Hj := Lib.hid hr
          clear hr
          by_cases hjt : j < s.size
          · by_cases hc : s.data.toList[j] = 10
            · have Ho := Lib.hid (Lx.skip_out _ _ hjt hc)
              have hkj' : k < j := by
                rcases Nat.lt_or_ge k j with h | h
                · exact h
                · exfalso
                  obtain rfl : k = j := by omega
                  rw [h47.out] at hc
                  exact absurd hc (by decide)
              have hc' : ((s[j].toNat : Int) != 10) = false := by
                rw [show s[j] = s.data.toList[j] from rfl, hc]; rfl
              clear hc
              go_wp2
              go_round
              case rel => exact ⟨j, by omega, rfl, by rw [Hj.out, Ho.out]⟩
              case measure => simp [intOf]; omega
            · have Ho := Lib.hid (Lx.skip_in _ _ hjt hc)
              have hc' : ((s[j].toNat : Int) != 10) = true := by
                rw [bne_iff_ne]
                intro h
                apply hc
                apply UInt8.toNat_inj.1
                show s[j].toNat = 10
                omega
              clear hc
              go_wp2
              go_round
              case rel => exact ⟨j + 1, by omega, by omega, by go_num, by rw [Hj.out, Ho.out]; omega⟩
              case measure => simp [intOf]; omega
          · go_wp2
            go_round
            case rel => exact ⟨j, by omega, rfl, by rw [Hj.out, Lx.skip_end _ _ _ (by omega), Lx.skip_end _ _ _ (by omega)]⟩
            case measure => simp [intOf]; omega
    · clear hlen
      go_wp2
      go_ret
      exact ⟨by rw [Hr.out, Lx.skip_end _ _ _ (by simpa using hlt)]; rfl, rfl⟩

end Go.Proofs.YtbgpboiblggmiaaGreatDoor

/-
  Walks over the reference lexer's functions that make a token: a name.
-/
namespace Go.Proofs.YtbgpboiblggmiaaGreatDoor
open Go.RowKit

theorem letterB (c : Int) (b : Bool) (w : World) (hb : Lx.letter c = b) :
    Calls Tryz.prog 74 #[.int .u8 c] w fun e w' => e = .returned (.bool b) ∧ w = w' := by
  subst hb
  exact letter_any c w
theorem digitB (c : Int) (b : Bool) (w : World) (hb : Lx.digit c = b) :
    Calls Tryz.prog 76 #[.int .u8 c] w fun e w' => e = .returned (.bool b) ∧ w = w' := by
  subst hb
  exact digit_any c w

theorem token_ret (kd : Int) (s : ByteArray) (a n k : Nat) (b c : Bool) (h : a + n = k) (hb : b = c) :
    Ending.returned (.tuple #[.agg #[.int .i64 kd, .string (s.extract a k), .int .i64 a], .bool b]) = Ending.returned (.tuple #[.agg #[.int .i64 kd, .string (s.extract a (a + n)), .int .i64 a], .bool c]) := by
  subst h; subst hb; rfl

set_option maxHeartbeats 1000000 in
theorem name_any (s : ByteArray) (a : Nat) (w : World) (h1 : a ≤ s.size) (hs : s.size ≤ 4000) (n : Nat) (hn : n = Lx.run Lx.wordU (s.data.toList.drop a)) :
    Calls Tryz.prog 75 #[.string s, .int .i64 a] w fun e w' => e = .returned (.tuple #[.agg #[.int .i64 1, .string (s.extract a (a + n)), .int .i64 a], .bool (decide (n ≤ 16))]) ∧ Below w.heap.size w w' := by
  have HR := Lib.hid hn
  clear hn
  go_enter Tryz.func75, Tryz.ntmps75
  go_wp2
  go_loop [6] (fun t => ∃ k : Nat, a ≤ k ∧ k ≤ s.size ∧ t = .int .i64 k ∧ a + n = k + Lx.run Lx.wordU (s.data.toList.drop k)) (fun t => s.size - (intOf t).toNat)
  case atStart => exact ⟨a, Nat.le_refl _, h1, rfl, by rw [HR.out]⟩
  case round =>
    obtain ⟨k, hak, hk, rfl, hr⟩ := hrel
    have Hr := Lib.hid hr
    clear hr
    by_cases hlt : k < s.size
    · cases hl : Lx.letterU s.data.toList[k]
      · cases hd : Lx.digitU s.data.toList[k]
        · cases hu : ((s[k].toNat : Int) == 95)
          · have Hs := Lib.hid (Lx.run_no Lx.wordU _ _ hlt (Lx.word_none _ hl hd hu))
            go_wp2_with (first | (go_at_call 74; refine (letterB _ false _ hl).mono ?_; rintro e w' ⟨rfl, rfl⟩) | (go_at_call 76; refine (digitB _ false _ hd).mono ?_; rintro e w' ⟨rfl, rfl⟩))
            exact bodyPost_ret (v := .tuple #[.agg #[.int .i64 1, .string (s.extract a k), .int .i64 a], .bool (decide ((k : Int) - a ≤ 16))]) (by simp [results, Tryz.results75, go_sem]) rfl
              ⟨token_ret _ _ _ _ _ _ _ (by rw [Hr.out, Hs.out]; rfl) (by have := Hr.out; rw [Hs.out] at this; rw [decide_eq_decide]; omega), (Below.refl _ _).alloc (Nat.le_refl _) _⟩
          · have Hs := Lib.hid (Lx.run_yes Lx.wordU _ _ hlt (Lx.word_under _ hu))
            go_wp2_with (first | (go_at_call 74; refine (letterB _ false _ hl).mono ?_; rintro e w' ⟨rfl, rfl⟩) | (go_at_call 76; refine (digitB _ false _ hd).mono ?_; rintro e w' ⟨rfl, rfl⟩))
            go_round
            case rel => exact ⟨k + 1, by omega, by omega, by go_num, by rw [Hr.out, Hs.out]; omega⟩
            case measure => simp [intOf]; omega
        · have Hs := Lib.hid (Lx.run_yes Lx.wordU _ _ hlt (Lx.word_digit _ hd))
          go_wp2_with (first | (go_at_call 74; refine (letterB _ false _ hl).mono ?_; rintro e w' ⟨rfl, rfl⟩) | (go_at_call 76; refine (digitB _ true _ hd).mono ?_; rintro e w' ⟨rfl, rfl⟩))
          go_round
          case rel => exact ⟨k + 1, by omega, by omega, by go_num, by rw [Hr.out, Hs.out]; omega⟩
          case measure => simp [intOf]; omega
      · have Hs := Lib.hid (Lx.run_yes Lx.wordU _ _ hlt (Lx.word_letter _ hl))
        go_wp2_with (go_at_call 74; refine (letterB _ true _ hl).mono ?_; rintro e w' ⟨rfl, rfl⟩)
        go_round
        case rel => exact ⟨k + 1, by omega, by omega, by go_num, by rw [Hr.out, Hs.out]; omega⟩
        case measure => simp [intOf]; omega
    · have Hs := Lib.hid (Lx.run_end Lx.wordU s.data.toList k (by show s.size ≤ k; omega))
      go_wp2
      exact bodyPost_ret (v := .tuple #[.agg #[.int .i64 1, .string (s.extract a k), .int .i64 a], .bool (decide ((k : Int) - a ≤ 16))]) (by simp [results, Tryz.results75, go_sem]) rfl
        ⟨token_ret _ _ _ _ _ _ _ (by rw [Hr.out, Hs.out]; rfl) (by have := Hr.out; rw [Hs.out] at this; rw [decide_eq_decide]; omega), (Below.refl _ _).alloc (Nat.le_refl _) _⟩

end Go.Proofs.YtbgpboiblggmiaaGreatDoor

/-
  Walks over the reference lexer's functions that make a token: a number.
-/
namespace Go.Proofs.YtbgpboiblggmiaaGreatDoor
open Go.RowKit

set_option maxHeartbeats 1000000 in
theorem number_any (s : ByteArray) (a : Nat) (w : World) (h1 : a < s.size) (hs : s.size ≤ 4000) (n : Nat) (hn : n = Lx.run Lx.digitU (s.data.toList.drop a)) :
    Calls Tryz.prog 77 #[.string s, .int .i64 a] w fun e w' => e = .returned (.tuple #[.agg #[.int .i64 2, .string (s.extract a (a + n)), .int .i64 a], .bool (Lx.numOk (s.data.toList.drop a) n)]) ∧ Below w.heap.size w w' := by
  have HR := Lib.hid hn
  clear hn
  go_enter Tryz.func77, Tryz.ntmps77
  go_wp2
  go_loop [6] (fun t => ∃ k : Nat, a ≤ k ∧ k ≤ s.size ∧ t = .int .i64 k ∧ a + n = k + Lx.run Lx.digitU (s.data.toList.drop k)) (fun t => s.size - (intOf t).toNat)
  case atStart => exact ⟨a, Nat.le_refl _, by omega, rfl, by rw [HR.out]⟩
  case round =>
    obtain ⟨k, hak, hk, rfl, hr⟩ := hrel
    have Hr := Lib.hid hr
    clear hr
    by_cases hlt : k < s.size
    · cases hd : Lx.digitU s.data.toList[k]
      · have Hs := Lib.hid (Lx.run_no Lx.digitU _ _ hlt hd)
        cases hl : Lx.letterU s.data.toList[k]
        · go_wp2_with (first | (go_at_call 74; refine (letterB _ false _ hl).mono ?_; rintro e w' ⟨rfl, rfl⟩) | (go_at_call 76; refine (digitB _ false _ hd).mono ?_; rintro e w' ⟨rfl, rfl⟩))
          all_goals
            have He : a + n = k := by rw [Hr.out, Hs.out]; rfl
            have Hb := Lx.numOk_eq s a k n h1 He
            have Hl := Lx.lu_no s k hlt hl
            first
              | (refine bodyPost_ret (v := .tuple #[.agg #[.int .i64 2, .string (s.extract a k), .int .i64 a], .bool false]) ?_ rfl ⟨token_ret _ _ _ _ _ _ _ He ?_, (Below.refl _ _).alloc (Nat.le_refl _) _⟩; (focus (simp [results, Tryz.results77, go_sem]; done)); rw [Hb]; first | (refine Lx.nf1 ?_; assumption) | (refine Lx.nf2 Hl) | (refine Lx.nf2 (Hl.trans ?_); assumption) | (refine Lx.nt1 ?_ ?_ Hl <;> assumption) | (refine Lx.nt1 ?_ ?_ (Hl.trans ?_) <;> assumption) | (refine Lx.ne1 ?_ ?_ Hl <;> assumption) | (refine Lx.ne1 ?_ ?_ (Hl.trans ?_) <;> assumption))
              | (refine bodyPost_ret (v := .tuple #[.agg #[.int .i64 2, .string (s.extract a k), .int .i64 a], .bool true]) ?_ rfl ⟨token_ret _ _ _ _ _ _ _ He ?_, (Below.refl _ _).alloc (Nat.le_refl _) _⟩; (focus (simp [results, Tryz.results77, go_sem]; done)); rw [Hb]; first | (refine Lx.nf1 ?_; assumption) | (refine Lx.nf2 Hl) | (refine Lx.nf2 (Hl.trans ?_); assumption) | (refine Lx.nt1 ?_ ?_ Hl <;> assumption) | (refine Lx.nt1 ?_ ?_ (Hl.trans ?_) <;> assumption) | (refine Lx.ne1 ?_ ?_ Hl <;> assumption) | (refine Lx.ne1 ?_ ?_ (Hl.trans ?_) <;> assumption))
              | (refine bodyPost_ret (v := .tuple #[.agg #[.int .i64 2, .string (s.extract a k), .int .i64 a], .bool ((k : Int) == a + 1)]) ?_ rfl ⟨token_ret _ _ _ _ _ _ _ He ?_, (Below.refl _ _).alloc (Nat.le_refl _) _⟩; (focus (simp [results, Tryz.results77, go_sem]; done)); rw [Hb]; first | (refine Lx.nf1 ?_; assumption) | (refine Lx.nf2 Hl) | (refine Lx.nf2 (Hl.trans ?_); assumption) | (refine Lx.nt1 ?_ ?_ Hl <;> assumption) | (refine Lx.nt1 ?_ ?_ (Hl.trans ?_) <;> assumption) | (refine Lx.ne1 ?_ ?_ Hl <;> assumption) | (refine Lx.ne1 ?_ ?_ (Hl.trans ?_) <;> assumption))
        · go_wp2_with (first | (go_at_call 74; refine (letterB _ true _ hl).mono ?_; rintro e w' ⟨rfl, rfl⟩) | (go_at_call 76; refine (digitB _ false _ hd).mono ?_; rintro e w' ⟨rfl, rfl⟩))
          all_goals
            have He : a + n = k := by rw [Hr.out, Hs.out]; rfl
            have Hb := Lx.numOk_eq s a k n h1 He
            have Hl := Lx.lu_yes s k hlt hl
            first
              | (refine bodyPost_ret (v := .tuple #[.agg #[.int .i64 2, .string (s.extract a k), .int .i64 a], .bool false]) ?_ rfl ⟨token_ret _ _ _ _ _ _ _ He ?_, (Below.refl _ _).alloc (Nat.le_refl _) _⟩; (focus (simp [results, Tryz.results77, go_sem]; done)); rw [Hb]; first | (refine Lx.nf1 ?_; assumption) | (refine Lx.nf2 Hl) | (refine Lx.nf2 (Hl.trans ?_); assumption) | (refine Lx.nt1 ?_ ?_ Hl <;> assumption) | (refine Lx.nt1 ?_ ?_ (Hl.trans ?_) <;> assumption) | (refine Lx.ne1 ?_ ?_ Hl <;> assumption) | (refine Lx.ne1 ?_ ?_ (Hl.trans ?_) <;> assumption))
              | (refine bodyPost_ret (v := .tuple #[.agg #[.int .i64 2, .string (s.extract a k), .int .i64 a], .bool true]) ?_ rfl ⟨token_ret _ _ _ _ _ _ _ He ?_, (Below.refl _ _).alloc (Nat.le_refl _) _⟩; (focus (simp [results, Tryz.results77, go_sem]; done)); rw [Hb]; first | (refine Lx.nf1 ?_; assumption) | (refine Lx.nf2 Hl) | (refine Lx.nf2 (Hl.trans ?_); assumption) | (refine Lx.nt1 ?_ ?_ Hl <;> assumption) | (refine Lx.nt1 ?_ ?_ (Hl.trans ?_) <;> assumption) | (refine Lx.ne1 ?_ ?_ Hl <;> assumption) | (refine Lx.ne1 ?_ ?_ (Hl.trans ?_) <;> assumption))
              | (refine bodyPost_ret (v := .tuple #[.agg #[.int .i64 2, .string (s.extract a k), .int .i64 a], .bool ((k : Int) == a + 1)]) ?_ rfl ⟨token_ret _ _ _ _ _ _ _ He ?_, (Below.refl _ _).alloc (Nat.le_refl _) _⟩; (focus (simp [results, Tryz.results77, go_sem]; done)); rw [Hb]; first | (refine Lx.nf1 ?_; assumption) | (refine Lx.nf2 Hl) | (refine Lx.nf2 (Hl.trans ?_); assumption) | (refine Lx.nt1 ?_ ?_ Hl <;> assumption) | (refine Lx.nt1 ?_ ?_ (Hl.trans ?_) <;> assumption) | (refine Lx.ne1 ?_ ?_ Hl <;> assumption) | (refine Lx.ne1 ?_ ?_ (Hl.trans ?_) <;> assumption))
      · have Hs := Lib.hid (Lx.run_yes Lx.digitU _ _ hlt hd)
        go_wp2_with (go_at_call 76; refine (digitB _ true _ hd).mono ?_; rintro e w' ⟨rfl, rfl⟩)
        go_round
        case rel => exact ⟨k + 1, by omega, by omega, by go_num, by rw [Hr.out, Hs.out]; omega⟩
        case measure => simp [intOf]; omega
    · have Hs := Lib.hid (Lx.run_end Lx.digitU s.data.toList k (by show s.size ≤ k; omega))
      go_wp2
      all_goals
        have He : a + n = k := by rw [Hr.out, Hs.out]; rfl
        have Hb := Lx.numOk_eq s a k n h1 He
        have Hl := Lx.lu_end s k hlt
        first
          | (refine bodyPost_ret (v := .tuple #[.agg #[.int .i64 2, .string (s.extract a k), .int .i64 a], .bool false]) ?_ rfl ⟨token_ret _ _ _ _ _ _ _ He ?_, (Below.refl _ _).alloc (Nat.le_refl _) _⟩; (focus (simp [results, Tryz.results77, go_sem]; done)); rw [Hb]; first | (refine Lx.nf1 ?_; assumption) | (refine Lx.nf2 Hl) | (refine Lx.nf2 (Hl.trans ?_); assumption) | (refine Lx.nt1 ?_ ?_ Hl <;> assumption) | (refine Lx.nt1 ?_ ?_ (Hl.trans ?_) <;> assumption) | (refine Lx.ne1 ?_ ?_ Hl <;> assumption) | (refine Lx.ne1 ?_ ?_ (Hl.trans ?_) <;> assumption))
          | (refine bodyPost_ret (v := .tuple #[.agg #[.int .i64 2, .string (s.extract a k), .int .i64 a], .bool true]) ?_ rfl ⟨token_ret _ _ _ _ _ _ _ He ?_, (Below.refl _ _).alloc (Nat.le_refl _) _⟩; (focus (simp [results, Tryz.results77, go_sem]; done)); rw [Hb]; first | (refine Lx.nf1 ?_; assumption) | (refine Lx.nf2 Hl) | (refine Lx.nf2 (Hl.trans ?_); assumption) | (refine Lx.nt1 ?_ ?_ Hl <;> assumption) | (refine Lx.nt1 ?_ ?_ (Hl.trans ?_) <;> assumption) | (refine Lx.ne1 ?_ ?_ Hl <;> assumption) | (refine Lx.ne1 ?_ ?_ (Hl.trans ?_) <;> assumption))
          | (refine bodyPost_ret (v := .tuple #[.agg #[.int .i64 2, .string (s.extract a k), .int .i64 a], .bool ((k : Int) == a + 1)]) ?_ rfl ⟨token_ret _ _ _ _ _ _ _ He ?_, (Below.refl _ _).alloc (Nat.le_refl _) _⟩; (focus (simp [results, Tryz.results77, go_sem]; done)); rw [Hb]; first | (refine Lx.nf1 ?_; assumption) | (refine Lx.nf2 Hl) | (refine Lx.nf2 (Hl.trans ?_); assumption) | (refine Lx.nt1 ?_ ?_ Hl <;> assumption) | (refine Lx.nt1 ?_ ?_ (Hl.trans ?_) <;> assumption) | (refine Lx.ne1 ?_ ?_ Hl <;> assumption) | (refine Lx.ne1 ?_ ?_ (Hl.trans ?_) <;> assumption))

end Go.Proofs.YtbgpboiblggmiaaGreatDoor

/-
  Walks over the reference lexer's table of symbols.
-/
namespace Go.Proofs.YtbgpboiblggmiaaGreatDoor
open Go.RowKit

theorem bcell {W w1 : World} (hb : Below W.heap.size W w1) : (∀ b o, b < W.heap.size → w1.cell? ⟨b, o, none⟩ = W.cell? ⟨b, o, none⟩) ∧ (∀ b o, b < W.heap.size → w1.frozen? ⟨b, o, none⟩ = W.frozen? ⟨b, o, none⟩) :=
  ⟨fun b o h => hb.cell (p := ⟨b, o, none⟩) h, fun b o h => hb.frozen (p := ⟨b, o, none⟩) h⟩

/-- block b holds the texts of a list, a cell each -/
def TextsAt (w : World) (b : Nat) (l : List (List UInt8)) : Prop := ∀ (i : Nat) (t : List UInt8), l[i]? = some t → w.cell? ⟨b, i, none⟩ = some (.string ⟨t.toArray⟩)

theorem textsAt_alloc (w : World) (l : List (List UInt8)) (ty : TypeId) : TextsAt (w.alloc (.cells (l.map fun t => Value.string ⟨t.toArray⟩).toArray ty)) w.heap.size l := by
  intro i t h
  rw [cell_of_row _ w.heap.size i _ ty (0, 0) (heap_alloc_new w _)]
  simp [h]

set_option maxHeartbeats 1000000 in
theorem symbols_any (w : World) :
    Calls Tryz.prog 78 #[] w fun e w' => e = .returned (.slice (some ⟨w.heap.size, 0, none⟩) 27 27) ∧ w' = w.alloc (.cells (Lx.refSyms.map fun t => Value.string ⟨t.toArray⟩).toArray 9) := by
  go_enter Tryz.func78, Tryz.ntmps78
  go_wp2
  go_ret
  exact ⟨rfl, rfl⟩

theorem symbols_at (w : World) :
    Calls Tryz.prog 78 #[] w fun e w' => e = .returned (.slice (some ⟨w.heap.size, 0, none⟩) 27 27) ∧ Below w.heap.size w w' ∧ TextsAt w' w.heap.size Lx.refSyms := by
  refine (symbols_any w).mono fun e w' ⟨he, hw⟩ => ?_
  subst hw
  exact ⟨he, (Below.refl _ _).alloc (Nat.le_refl _) _, textsAt_alloc w Lx.refSyms 9⟩

theorem beginsB (s : ByteArray) (t : List UInt8) (a : Nat) (b : Bool) (w : World) (h1 : a ≤ s.size) (hs : s.size ≤ 4000) (ht : t.length ≤ 3) (hb : Lx.begins s.data.toList t a = b) :
    Calls Tryz.prog 72 #[.string s, .int .i64 a, .string ⟨t.toArray⟩] w fun e w' => e = .returned (.bool b) ∧ w = w' := by
  subst hb
  have h := begins_any s ⟨t.toArray⟩ a w (by omega) (by omega) hs (by show t.toArray.size ≤ 1000; simp; omega)
  rw [Int.toNat_natCast] at h
  exact h

end Go.Proofs.YtbgpboiblggmiaaGreatDoor

/-
  Walks over the reference lexer's token.
-/
namespace Go.Proofs.YtbgpboiblggmiaaGreatDoor
open Go.RowKit

theorem ret_box {w w' : World} {X : Array Value} {T : TypeId} (hb : Below (w.alloc (.cells X T)).heap.size (w.alloc (.cells X T)) w') (a b c : Value) :
    Below w.heap.size w (((w'.setCell ⟨w.heap.size, 0, none⟩ a).setCell ⟨w.heap.size, 1, none⟩ b).setCell ⟨w.heap.size, 2, none⟩ c) :=
  ((((Below.refl _ _).alloc (Nat.le_refl _) _).trans (hb.mono (by simp))).setCell (by simp) _).setCell (by simp) _ |>.setCell (by simp) _

set_option maxHeartbeats 1000000 in
theorem token_letter (s : ByteArray) (a : Nat) (w : World) (h1 : a < s.size) (hs : s.size ≤ 4000) (hl : Lx.letterU s.data.toList[a] = true) (n : Nat) (hn : n = Lx.run Lx.wordU (s.data.toList.drop a)) :
    Calls Tryz.prog 49 #[.string s, .int .i64 a] w fun e w' => e = .returned (.tuple #[.agg #[.int .i64 1, .string (s.extract a (a + n)), .int .i64 a], .bool (decide (n ≤ 16))]) ∧ Below w.heap.size w w' := by
  have Hn := Lib.hid hn
  clear hn
  go_enter Tryz.func49, Tryz.ntmps49
  go_wp2_with (first | (go_at_call 74; refine (letterB _ true _ hl).mono ?_; rintro e w' ⟨rfl, rfl⟩) | (go_at_call 75; refine (name_any s a _ (by omega) hs n Hn.out).mono ?_; rintro e w' ⟨rfl, hb⟩; obtain ⟨hc, hf⟩ := bcell hb))
  obtain ⟨hc, hf⟩ := bcell hb
  refine bodyPost_ret (v := .tuple #[.agg #[.int .i64 1, .string (s.extract a (a + n)), .int .i64 a], .bool (decide (n ≤ 16))]) ?_ rfl ⟨rfl, ret_box hb _ _ _⟩
  simp [results, Tryz.results49, go_sem, hc]

set_option maxHeartbeats 1000000 in
theorem token_digit (s : ByteArray) (a : Nat) (w : World) (h1 : a < s.size) (hs : s.size ≤ 4000) (hl : Lx.letterU s.data.toList[a] = false) (hd : Lx.digitU s.data.toList[a] = true) (n : Nat) (hn : n = Lx.run Lx.digitU (s.data.toList.drop a)) (b : Bool) (hb : Lx.numOk (s.data.toList.drop a) n = b) :
    Calls Tryz.prog 49 #[.string s, .int .i64 a] w fun e w' => e = .returned (.tuple #[.agg #[.int .i64 2, .string (s.extract a (a + n)), .int .i64 a], .bool b]) ∧ Below w.heap.size w w' := by
  have Hn := Lib.hid hn
  clear hn
  have num : ∀ w : World, Calls Tryz.prog 77 #[.string s, .int .i64 a] w fun e w' => e = .returned (.tuple #[.agg #[.int .i64 2, .string (s.extract a (a + n)), .int .i64 a], .bool b]) ∧ Below w.heap.size w w' := by
    intro w
    subst hb
    exact number_any s a w h1 hs n Hn.out
  have Num := Lib.hid num
  clear num hb
  go_enter Tryz.func49, Tryz.ntmps49
  go_wp2_with (first | (go_at_call 74; refine (letterB _ false _ hl).mono ?_; rintro e w' ⟨rfl, rfl⟩) | (go_at_call 76; refine (digitB _ true _ hd).mono ?_; rintro e w' ⟨rfl, rfl⟩) | (go_at_call 77; refine (Num.out _).mono ?_; rintro e w' ⟨rfl, hb⟩; obtain ⟨hc, hf⟩ := bcell hb))
  obtain ⟨hc, hf⟩ := bcell hb
  refine bodyPost_ret (v := .tuple #[.agg #[.int .i64 2, .string (s.extract a (a + n)), .int .i64 a], .bool b]) ?_ rfl ⟨rfl, ret_box hb _ _ _⟩
  simp [results, Tryz.results49, go_sem, hc]

/-- what the last way of 'token' answers: the symbol that is found, or none -/
def SymSaid (a : Nat) (w : World) (o : Option (List UInt8)) (e : Ending) (w' : World) : Prop :=
  Below w.heap.size w w' ∧ (match o with
    | some t => e = .returned (.tuple #[.agg #[.int .i64 3, .string ⟨t.toArray⟩, .int .i64 a], .bool true])
    | none => e = .returned (.tuple #[.agg #[.int .i64 0, .string ⟨#[]⟩, .int .i64 0], .bool false]))

set_option maxHeartbeats 1000000 in
theorem token_sym (s : ByteArray) (a : Nat) (w : World) (h1 : a < s.size) (hs : s.size ≤ 4000) (hl : Lx.letterU s.data.toList[a] = false) (hd : Lx.digitU s.data.toList[a] = false) (o : Option (List UInt8)) (ho : Lx.sym (s.data.toList.drop a) = o) :
    Calls Tryz.prog 49 #[.string s, .int .i64 a] w (SymSaid a w o) := by
  have Ho := Lib.hid ho
  clear ho
  go_enter Tryz.func49, Tryz.ntmps49
  go_wp2_with (first | (go_at_call 74; refine (letterB _ false _ hl).mono ?_; rintro e w' ⟨rfl, rfl⟩) | (go_at_call 76; refine (digitB _ false _ hd).mono ?_; rintro e w' ⟨rfl, rfl⟩) | (go_at_call 78; refine (symbols_at _).mono ?_; rintro e w' ⟨rfl, hb, hT⟩))
  obtain ⟨hc, hf⟩ := bcell hb
  have hz : w.heap.size + 1 ≤ w'.heap.size := by have := hb.size; simpa using this
  have hT' := Lib.hid hT
  clear hT
  go_loop [7] (fun t => ∃ i : Nat, i ≤ 27 ∧ t = .int .i64 i ∧ Lx.symFrom (s.data.toList.drop a) i = o) (fun t => 27 - (intOf t).toNat)
  case atStart => exact ⟨0, by omega, rfl, Ho.out⟩
  case round =>
    obtain ⟨i, hi, rfl, hr⟩ := hrel
    have Hr := Lib.hid hr
    clear hr
    by_cases hlt : i < 27
    · obtain ⟨t, ht⟩ : ∃ t, Lx.refSyms[i]? = some t := ⟨_, List.getElem?_eq_getElem (show i < Lx.refSyms.length from hlt)⟩
      have hcell : w'.cell? ⟨w.heap.size + 1, i, none⟩ = some (.string ⟨t.toArray⟩) := by have := hT'.out i t ht; simpa using this
      have hlen : t.length ≤ 3 := (Lx.refSyms_short t (List.mem_of_getElem? ht)).1
      have Ht := Lib.hid ht
      clear ht
      cases hbg : Lx.begins s.data.toList t a
      · have Hn := Lib.hid (Lx.symFrom_no _ t a i Ht.out hbg)
        go_wp2_with (go_at_call 72; refine (beginsB s t a false _ (by omega) hs hlen hbg).mono ?_; rintro e w' ⟨rfl, rfl⟩)
        go_round
        case rel => exact ⟨i + 1, by omega, by go_num, by rw [← Hr.out, Hn.out]⟩
        case measure => simp [intOf]; omega
      · have Hn := Lib.hid (Lx.symFrom_yes _ t a i Ht.out hbg)
        go_wp2_with (go_at_call 72; refine (beginsB s t a true _ (by omega) hs hlen hbg).mono ?_; rintro e w' ⟨rfl, rfl⟩)
        refine bodyPost_ret (v := .tuple #[.agg #[.int .i64 3, .string ⟨t.toArray⟩, .int .i64 a], .bool true]) ?_ rfl ⟨ret_box hb _ _ _, ?_⟩
        · simp [results, Tryz.results49, go_sem, hc]
        · rw [← Hr.out, Hn.out]
    · obtain rfl : i = 27 := by omega
      go_wp2
      refine bodyPost_ret (v := .tuple #[.agg #[.int .i64 0, .string ⟨#[]⟩, .int .i64 0], .bool false]) ?_ rfl ⟨ret_box hb _ _ _, ?_⟩
      · simp [results, Tryz.results49, go_sem, hc]
      · rw [← Hr.out, Lx.symFrom_end]

end Go.Proofs.YtbgpboiblggmiaaGreatDoor

/-
  The reference's token by one contract; a walk over the reference's Lex.
-/
namespace Go.Proofs.YtbgpboiblggmiaaGreatDoor
open Go.RowKit

/-- the cells of a token -/
def tokCells (t : Lx.Tok) : List Value := [.int .i64 t.kind, .string ⟨t.text.toArray⟩, .int .i64 t.off]
/-- the cells of tokens, one behind the other -/
def toksCells (l : List Lx.Tok) : List Value := l.flatMap tokCells
theorem toksCells_snoc (l : List Lx.Tok) (t : Lx.Tok) : toksCells (l ++ [t]) = toksCells l ++ tokCells t := by simp [toksCells]
/-- 'token' answers a token -/
def TokYes (s : ByteArray) (a kd n : Nat) (w : World) (e : Ending) (w' : World) : Prop :=
  Below w.heap.size w w' ∧ ∃ tx : ByteArray, tx.size = n ∧ tx = ⟨((s.data.toList.drop a).take n).toArray⟩ ∧ e = .returned (.tuple #[.agg #[.int .i64 kd, .string tx, .int .i64 a], .bool true])
/-- 'token' answers none -/
def TokNo (w : World) (e : Ending) (w' : World) : Prop :=
  Below w.heap.size w w' ∧ ∃ (k p : Int) (tx : ByteArray), e = .returned (.tuple #[.agg #[.int .i64 k, .string tx, .int .i64 p], .bool false])

theorem extract_text (s : ByteArray) (a n : Nat) : s.extract a (a + n) = ⟨((s.data.toList.drop a).take n).toArray⟩ := by
  apply WideShapes.bytes_inj
  rw [Lib.extract_data]
  simp
theorem extract_size (s : ByteArray) (a n : Nat) (h : a + n ≤ s.size) : (s.extract a (a + n)).size = n := by
  rw [ByteArray.size_extract]; omega

theorem token_yes (s : ByteArray) (a : Nat) (w : World) (h1 : a < s.size) (hs : s.size ≤ 4000) (kd n : Nat) (h : Lx.tok (s.data.toList.drop a) = some (kd, n)) :
    Calls Tryz.prog 49 #[.string s, .int .i64 a] w (TokYes s a kd n w) := by
  have hp := (Lx.tok_pos _ _ _ h).2
  rw [List.length_drop] at hp
  have hp' : a + n ≤ s.size := by have : s.data.toList.length = s.size := rfl; omega
  cases hl : Lx.letterU s.data.toList[a]
  · cases hd : Lx.digitU s.data.toList[a]
    · rw [Lx.tok_sym _ _ h1 hl hd] at h
      cases ho : Lx.sym (s.data.toList.drop a) with
      | none => rw [ho] at h; cases h
      | some t =>
        rw [ho] at h
        simp only [Option.map_some, Option.some.injEq, Prod.mk.injEq] at h
        obtain ⟨rfl, rfl⟩ := h
        refine (token_sym s a w h1 hs hl hd _ ho).mono fun e w' ⟨hb, he⟩ => ⟨hb, _, ?_, ?_, he⟩
        · show t.toArray.size = t.length
          simp
        · rw [(Lx.sym_len _ _ ho).1]
    · rw [Lx.tok_digit _ _ h1 hl hd] at h
      split at h
      · rename_i hok
        simp only [Option.some.injEq, Prod.mk.injEq] at h
        obtain ⟨rfl, hn⟩ := h
        refine (token_digit s a w h1 hs hl hd n hn.symm true (by rw [← hn]; exact hok)).mono fun e w' ⟨he, hb⟩ => ⟨hb, _, extract_size s a n hp', extract_text s a n, he⟩
      · cases h
  · rw [Lx.tok_letter _ _ h1 hl] at h
    split at h
    · rename_i hok
      simp only [Option.some.injEq, Prod.mk.injEq] at h
      obtain ⟨rfl, hn⟩ := h
      refine (token_letter s a w h1 hs hl n hn.symm).mono fun e w' ⟨he, hb⟩ => ⟨hb, _, extract_size s a n hp', extract_text s a n, ?_⟩
      rw [he, decide_eq_true (by omega)]
      rfl
    · cases h

theorem token_no (s : ByteArray) (a : Nat) (w : World) (h1 : a < s.size) (hs : s.size ≤ 4000) (h : Lx.tok (s.data.toList.drop a) = none) :
    Calls Tryz.prog 49 #[.string s, .int .i64 a] w (TokNo w) := by
  cases hl : Lx.letterU s.data.toList[a]
  · cases hd : Lx.digitU s.data.toList[a]
    · rw [Lx.tok_sym _ _ h1 hl hd] at h
      cases ho : Lx.sym (s.data.toList.drop a) with
      | some t => rw [ho] at h; cases h
      | none => exact (token_sym s a w h1 hs hl hd _ ho).mono fun e w' ⟨hb, he⟩ => ⟨hb, 0, 0, _, he⟩
    · rw [Lx.tok_digit _ _ h1 hl hd] at h
      split at h
      · cases h
      · rename_i hok
        exact (token_digit s a w h1 hs hl hd _ rfl false (by simpa using hok)).mono fun e w' ⟨he, hb⟩ => ⟨hb, 2, a, _, he⟩
  · rw [Lx.tok_letter _ _ h1 hl] at h
    split at h
    · cases h
    · rename_i hok
      refine (token_letter s a w h1 hs hl _ rfl).mono fun e w' ⟨he, hb⟩ => ⟨hb, 1, a, s.extract a (a + Lx.run Lx.wordU (s.data.toList.drop a)), ?_⟩
      rw [he, decide_eq_false hok]

theorem skip_int (s : ByteArray) (a : Int) (n r : Nat) (w : World) (ha : a = n) (h1 : n ≤ s.size) (hs : s.size ≤ 4000) (hr : r = n + Lx.skip false (s.data.toList.drop n)) :
    Calls Tryz.prog 48 #[.string s, .int .i64 a] w fun e w' => e = .returned (.int .i64 r) ∧ w = w' := by
  subst ha
  subst hr
  exact skip_any s n w h1 hs

end Go.Proofs.YtbgpboiblggmiaaGreatDoor

/-
  A walk over the reference's Lex.
-/
namespace Go.Proofs.YtbgpboiblggmiaaGreatDoor
open Go.RowKit

theorem infoTok : (Tryz.prog.info? 53).map (fun i => (i.zero, i.size, i.bytes)) = some (some (.agg #[.int .i64 0, .string ByteArray.empty, .int .i64 0]), 3, 32) := by kernel_rfl

/-- what a lexer answers: the tokens in a row of its own -/
def LexSaid (l : List UInt8) (w : World) (e : Ending) (w' : World) : Prop :=
  Below w.heap.size w w' ∧ ∃ v : Value, e = .returned (.tuple #[v, .int .i64 ((Lx.lex l).2.1 : Int), .int .i64 ((Lx.lex l).2.2 : Int)]) ∧ w'.ownsRow w.heap.size 53 3 v (Lx.lex l).1.length (toksCells (Lx.lex l).1)

theorem ownsRow_below {w w' : World} {base : Nat} {e : TypeId} {size : Nat} {v : Value} {n : Nat} {xs : List Value} (h : w.ownsRow base e size v n xs) (hb : Below w.heap.size w w') : w'.ownsRow base e size v n xs := by
  refine ⟨h.1, ?_⟩
  rcases h.2 with h | ⟨g, cap, cur, rfl, hb', hg, r⟩
  · exact .inl h
  · exact .inr ⟨g, cap, cur, rfl, hb', by rw [hb.block g (Array.getElem?_eq_some_iff.1 hg).1]; exact hg, r⟩

theorem cell_three_new (W : World) (a b c : Value) (T : TypeId) (B : Nat) (hB : B = W.heap.size) : ∀ j u, [a, b, c][j]? = some u → (W.alloc (.cells #[a, b, c] T)).cell? ((⟨B, 0, none⟩ : Addr).add j) = some u := by
  intro j u h
  subst hB
  have hadd : (⟨W.heap.size, 0, none⟩ : Addr).add j = ⟨W.heap.size, j, none⟩ := by unfold Addr.add; split <;> simp_all
  rw [hadd, cell_of_row _ W.heap.size j _ T (0, 0) (heap_alloc_new W _)]
  simpa using h
/-- a cell of a block that lay there before an append that writes to another block -/
theorem cell_grown {w w' : World} {row : Option Nat} (hg : w.grownBy w' row) (b o : Nat) (hb : b < w.heap.size) (hr : row ≠ some b) : w'.cell? ⟨b, o, none⟩ = w.cell? ⟨b, o, none⟩ :=
  World.cell?_of_block (w := w) (hg.block b hb (fun h => hr h.symm))
theorem ownBlock_lt {w : World} {base : Nat} {e : TypeId} {size : Nat} {v : Value} {n : Nat} {xs : List Value} (h : w.ownsRow base e size v n xs) (b : Nat) (hb : w.heap.size ≤ b) : v.ownBlock ≠ some b := by
  intro hv
  have := (h.lt b hv).2
  omega

theorem ownsRow_form {w : World} {base : Nat} {e : TypeId} {size : Nat} {v : Value} {n : Nat} {xs : List Value} (h : w.ownsRow base e size v n xs) : ∃ a cap, v = .slice a n cap := by
  rcases h.2 with ⟨rfl, rfl⟩ | ⟨g, cap, cur, rfl, _⟩
  · exact ⟨_, _, rfl⟩
  · exact ⟨_, _, rfl⟩

theorem lexSaid_of {l : List UInt8} {w w' : World} {v : Value} {ts : List Lx.Tok} {e p : Nat} (h : Lx.lex l = (ts, e, p)) (hb : Below w.heap.size w w') (ho : w'.ownsRow w.heap.size 53 3 v ts.length (toksCells ts)) :
    LexSaid l w (.returned (.tuple #[v, .int .i64 (e : Int), .int .i64 (p : Int)])) w' := by
  refine ⟨hb, v, ?_, ?_⟩
  · rw [h]
  · rw [h]; exact ho

set_option maxHeartbeats 400000 in
theorem rlex_big (s : ByteArray) (w : World) (h : 4000 < s.size) (hm : s.size ≤ maxLen) : Calls Tryz.prog 26 #[.string s] w (LexSaid s.data.toList w) := by
  unfold maxLen at hm
  go_enter Tryz.func26, Tryz.ntmps26
  go_wp2
  go_ret3
  exact lexSaid_of (Lx.lex_big _ h) (Below.refl _ _) (World.ownsRow_nil _ _ _ _)

set_option maxRecDepth 100000 in
set_option maxHeartbeats 1000000 in
theorem rlex_small (s : ByteArray) (w : World) (hs : s.size ≤ 4000) : Calls Tryz.prog 26 #[.string s] w (LexSaid s.data.toList w) := by
  have hlen : s.data.toList.length = s.size := rfl
  have hstart := Lx.lex_rest s.data.toList (by omega)
  have hk0 := Lx.skip_le s.data.toList false
  obtain ⟨k0, hk0e⟩ : ∃ k, k = Lx.skip false s.data.toList := ⟨_, rfl⟩
  rw [← hk0e] at hstart hk0
  rw [hlen] at hstart hk0
  have Hk0 := Lib.hid hk0e
  have Hstart := Lib.hid hstart
  clear hk0e hstart hlen
  obtain ⟨i0, hi, hz0, hz1, hz2⟩ := info_parts infoTok
  go_enter Tryz.func26, Tryz.ntmps26
  go_wp2_with (go_at_call 48; refine (skip_int s 0 0 k0 _ rfl (by omega) hs (by rw [Hk0.out]; simp)).mono ?_; rintro e w' ⟨rfl, rfl⟩)
  go_loopw [5, 6] (fun v p wr => ∃ (acc : List Lx.Tok) (k f : Nat), k ≤ s.size ∧ acc.length ≤ 1500 ∧ p = .int .i64 k ∧ wr.ownsRow w.heap.size 53 3 v acc.length (toksCells acc) ∧ Below w.heap.size w wr ∧ s.size - k < f ∧ Lx.lex s.data.toList = Lx.rest f s.data.toList k acc) (fun _ p _ => s.size - (intOf p).toNat)
  case atStart => exact ⟨[], k0, s.size + 1, hk0, by simp, rfl, World.ownsRow_nil _ _ _ _, Below.refl _ _, by omega, Hstart.out⟩
  case round =>
    obtain ⟨acc, k, f, hk, hacc, rfl, hown, hb, hf, hr⟩ := hrel
    obtain ⟨va, cap, hv⟩ := ownsRow_form hown
    subst hv
    have Hr := Lib.hid hr
    clear hr
    by_cases hlt : k < s.size
    · have hf0 : 0 < f := by omega
      by_cases hc : acc.length = 1500
      · have Hfull := Lib.hid (Lx.rest_full f _ k acc hlt hf0 hc)
        have hge : 1500 ≤ acc.length := by omega
        clear hc
        go_wp2
        go_ret3
        exact lexSaid_of (by rw [Hr.out, Hfull.out]) hb (World.ownsRow_nil _ _ _ _)
      · have hc' : acc.length < 1500 := by omega
        cases ht : Lx.tok (s.data.toList.drop k) with
        | none =>
          have Hn := Lib.hid (Lx.rest_none f _ k acc hlt hf0 hc ht)
          have Ht := Lib.hid ht
          clear hc ht
          go_wp2_with (go_at_call 49; refine (token_no s k _ hlt hs Ht.out).mono ?_; rintro e w1 ⟨hb1, k1, p1, tx, rfl⟩; obtain ⟨hc1, hf1⟩ := bcell hb1)
          go_ret3
          exact lexSaid_of (by rw [Hr.out, Hn.out]) (hb.trans ((hb1.mono hb.size).alloc (by have := hb.size; have := hb1.size; omega) _)) (World.ownsRow_nil _ _ _ _)
        | some kn =>
          obtain ⟨kd, n⟩ := kn
          obtain ⟨hn0, hn1, hn2, hn3⟩ := Lx.rest_some f _ k acc kd n hlt (by show s.size - k < f; exact hf) hc ht
          have Hs := Lib.hid hn3
          have Ht := Lib.hid ht
          obtain ⟨g, hg⟩ : ∃ g, g = k + n + Lx.skip false (s.data.toList.drop (k + n)) := ⟨_, rfl⟩
          have hn1' : k + n ≤ s.size := hn1
          have hg' : g ≤ s.size := by
            have h1 := Lx.skip_le (s.data.toList.drop (k + n)) false
            have h2 : s.data.toList.length = s.size := rfl
            rw [List.length_drop] at h1
            omega
          have hn2' : s.size - g < f - 1 := by rw [hg]; exact hn2
          have hkg : k < g := by omega
          have Hg := Lib.hid hg
          have hbs := hb.size
          clear hc ht hn1 hn2 hn3 hg
          go_wp2_with (first | (go_at_call 49; refine (token_yes s k _ hlt hs kd n Ht.out).mono ?_; rintro e w1 ⟨hb1, tx, htz, htx, rfl⟩; obtain ⟨hc1, hf1⟩ := bcell hb1; have hbs1 := hb1.size; have Htx := Lib.hid htx; have Htz := Lib.hid htz; have hxs : tx.size ≤ 4000 := (by omega); clear htx htz) | (at_builtin; go_must (refine wpList_append_own _ rfl _ _ 48 rfl w.heap.size 53 i0 (.agg #[.int .i64 0, .string ByteArray.empty, .int .i64 0]) 3 32 Tryz.underlying48 hi hz0 hz1 hz2 rfl (by decide) _ _ _ rfl (((ownsRow_below hown hb1).alloc _).alloc _) ⟨w1.heap.size + 1, 0, none⟩ 1 1 [.int .i64 kd, .string tx, .int .i64 k] rfl rfl (cell_three_new _ _ _ _ _ _ (by simp)) (fun x hx => by simp at hx; rcases hx with rfl | rfl | rfl <;> rfl) (by unfold maxLen; omega) (by omega) (by simp; omega) ?_); intro v' w3 hown3 hgrow3 hnil3; clear hnil3; have hx3 := (cell_grown hgrow3 w1.heap.size 1 (by simp; omega) (ownBlock_lt hown _ hbs1))) | (go_at_call 48; refine (skip_int s _ (k + n) g _ (by rw [Htz.out]; omega) hn1' hs Hg.out).mono ?_; rintro e w' ⟨rfl, rfl⟩))
          refine ⟨⟨acc ++ [⟨kd, (s.data.toList.drop k).take n, k⟩], g, f - 1, hg', by simp; omega, rfl, ?_, ?_, hn2', by rw [Hr.out, Hs.out, Hg.out]⟩, by simp [intOf]; omega⟩
          · rw [List.length_append, toksCells_snoc]
            have h3 := hown3
            rw [Htx.out] at h3
            exact h3
          · have hbw : Below w.heap.size w w1 := hb.trans (hb1.mono hbs)
            have hb2 := (hbw.alloc (by omega) (.cells #[Value.int .i64 kd, Value.string tx, Value.int .i64 k] 53)).alloc (by simp; omega) (.cells #[Value.int .i64 kd, Value.string tx, Value.int .i64 k] 53)
            exact hb2.grown hgrow3 (by simp; omega) (fun j hj => (hown.lt j hj).1)
    · go_wp2
      go_ret3
      exact lexSaid_of (by rw [Hr.out, Lx.rest_end _ _ _ _ (by show s.size ≤ k; omega)]) hb hown

end Go.Proofs.YtbgpboiblggmiaaGreatDoor

/-
  The program's table of symbols: what its cells hold, and how it is loaded and indexed.
-/
namespace Go.Proofs.YtbgpboiblggmiaaGreatDoor
open Go.RowKit

/-- the program's symbols, in the order of its table -/
def symTab : List (List UInt8) := [[61, 61, 62], [61, 61], [61], [58, 61], [58], [33, 61], [33], [60, 61], [60], [38, 38], [38], [124, 124], [124], [123], [125], [40], [41], [91], [93], [59], [44], [46], [63], [94], [43], [45], [42]]
/-- the table as a value -/
def symArr : Array Value := (symTab.map fun t => Value.string ⟨t.toArray⟩).toArray
/-- the table's cells hold its texts -/
def SymsAt (w : World) : Prop := TextsAt w 0 symTab

theorem symsAt_below {w w' : World} {B : Nat} (h : SymsAt w) (hb : Below B w w') (hB : 0 < B) : SymsAt w' := fun i t ht => (hb.cell (p := ⟨0, i, none⟩) hB).trans (h i t ht)

theorem symIdx (i : Nat) (t : List UInt8) (h : symTab[i]? = some t) (W : World) : (Instr.index 108 (.agg symArr) (.int .i64 i)).run Tryz.prog W = .ok (.string ⟨t.toArray⟩) W := by
  obtain ⟨hi, ht⟩ := List.getElem?_eq_some_iff.1 h
  have hi' : i < 27 := hi
  subst ht
  match i with
  | 0 => exact (show ∀ W : World, (Instr.index 108 (.agg symArr) (.int .i64 0)).run Tryz.prog W = .ok (.string ⟨#[61, 61, 62]⟩) W from fun _ => by kernel_rfl) W
  | 1 => exact (show ∀ W : World, (Instr.index 108 (.agg symArr) (.int .i64 1)).run Tryz.prog W = .ok (.string ⟨#[61, 61]⟩) W from fun _ => by kernel_rfl) W
  | 2 => exact (show ∀ W : World, (Instr.index 108 (.agg symArr) (.int .i64 2)).run Tryz.prog W = .ok (.string ⟨#[61]⟩) W from fun _ => by kernel_rfl) W
  | 3 => exact (show ∀ W : World, (Instr.index 108 (.agg symArr) (.int .i64 3)).run Tryz.prog W = .ok (.string ⟨#[58, 61]⟩) W from fun _ => by kernel_rfl) W
  | 4 => exact (show ∀ W : World, (Instr.index 108 (.agg symArr) (.int .i64 4)).run Tryz.prog W = .ok (.string ⟨#[58]⟩) W from fun _ => by kernel_rfl) W
  | 5 => exact (show ∀ W : World, (Instr.index 108 (.agg symArr) (.int .i64 5)).run Tryz.prog W = .ok (.string ⟨#[33, 61]⟩) W from fun _ => by kernel_rfl) W
  | 6 => exact (show ∀ W : World, (Instr.index 108 (.agg symArr) (.int .i64 6)).run Tryz.prog W = .ok (.string ⟨#[33]⟩) W from fun _ => by kernel_rfl) W
  | 7 => exact (show ∀ W : World, (Instr.index 108 (.agg symArr) (.int .i64 7)).run Tryz.prog W = .ok (.string ⟨#[60, 61]⟩) W from fun _ => by kernel_rfl) W
  | 8 => exact (show ∀ W : World, (Instr.index 108 (.agg symArr) (.int .i64 8)).run Tryz.prog W = .ok (.string ⟨#[60]⟩) W from fun _ => by kernel_rfl) W
  | 9 => exact (show ∀ W : World, (Instr.index 108 (.agg symArr) (.int .i64 9)).run Tryz.prog W = .ok (.string ⟨#[38, 38]⟩) W from fun _ => by kernel_rfl) W
  | 10 => exact (show ∀ W : World, (Instr.index 108 (.agg symArr) (.int .i64 10)).run Tryz.prog W = .ok (.string ⟨#[38]⟩) W from fun _ => by kernel_rfl) W
  | 11 => exact (show ∀ W : World, (Instr.index 108 (.agg symArr) (.int .i64 11)).run Tryz.prog W = .ok (.string ⟨#[124, 124]⟩) W from fun _ => by kernel_rfl) W
  | 12 => exact (show ∀ W : World, (Instr.index 108 (.agg symArr) (.int .i64 12)).run Tryz.prog W = .ok (.string ⟨#[124]⟩) W from fun _ => by kernel_rfl) W
  | 13 => exact (show ∀ W : World, (Instr.index 108 (.agg symArr) (.int .i64 13)).run Tryz.prog W = .ok (.string ⟨#[123]⟩) W from fun _ => by kernel_rfl) W
  | 14 => exact (show ∀ W : World, (Instr.index 108 (.agg symArr) (.int .i64 14)).run Tryz.prog W = .ok (.string ⟨#[125]⟩) W from fun _ => by kernel_rfl) W
  | 15 => exact (show ∀ W : World, (Instr.index 108 (.agg symArr) (.int .i64 15)).run Tryz.prog W = .ok (.string ⟨#[40]⟩) W from fun _ => by kernel_rfl) W
  | 16 => exact (show ∀ W : World, (Instr.index 108 (.agg symArr) (.int .i64 16)).run Tryz.prog W = .ok (.string ⟨#[41]⟩) W from fun _ => by kernel_rfl) W
  | 17 => exact (show ∀ W : World, (Instr.index 108 (.agg symArr) (.int .i64 17)).run Tryz.prog W = .ok (.string ⟨#[91]⟩) W from fun _ => by kernel_rfl) W
  | 18 => exact (show ∀ W : World, (Instr.index 108 (.agg symArr) (.int .i64 18)).run Tryz.prog W = .ok (.string ⟨#[93]⟩) W from fun _ => by kernel_rfl) W
  | 19 => exact (show ∀ W : World, (Instr.index 108 (.agg symArr) (.int .i64 19)).run Tryz.prog W = .ok (.string ⟨#[59]⟩) W from fun _ => by kernel_rfl) W
  | 20 => exact (show ∀ W : World, (Instr.index 108 (.agg symArr) (.int .i64 20)).run Tryz.prog W = .ok (.string ⟨#[44]⟩) W from fun _ => by kernel_rfl) W
  | 21 => exact (show ∀ W : World, (Instr.index 108 (.agg symArr) (.int .i64 21)).run Tryz.prog W = .ok (.string ⟨#[46]⟩) W from fun _ => by kernel_rfl) W
  | 22 => exact (show ∀ W : World, (Instr.index 108 (.agg symArr) (.int .i64 22)).run Tryz.prog W = .ok (.string ⟨#[63]⟩) W from fun _ => by kernel_rfl) W
  | 23 => exact (show ∀ W : World, (Instr.index 108 (.agg symArr) (.int .i64 23)).run Tryz.prog W = .ok (.string ⟨#[94]⟩) W from fun _ => by kernel_rfl) W
  | 24 => exact (show ∀ W : World, (Instr.index 108 (.agg symArr) (.int .i64 24)).run Tryz.prog W = .ok (.string ⟨#[43]⟩) W from fun _ => by kernel_rfl) W
  | 25 => exact (show ∀ W : World, (Instr.index 108 (.agg symArr) (.int .i64 25)).run Tryz.prog W = .ok (.string ⟨#[45]⟩) W from fun _ => by kernel_rfl) W
  | 26 => exact (show ∀ W : World, (Instr.index 108 (.agg symArr) (.int .i64 26)).run Tryz.prog W = .ok (.string ⟨#[42]⟩) W from fun _ => by kernel_rfl) W
  | n + 27 => exact absurd hi' (by omega)

theorem symLoad (W : World) (h : SymsAt W) : (loadVar 108 ⟨0, 0, none⟩).run Tryz.prog W = .ok (.agg symArr) W := by
  have hl : (loadCells ⟨0, 0, none⟩ symArr.toList.length).run Tryz.prog W = .ok symArr.toList.toArray W :=
    run_loadCells_list (P := Tryz.prog) W ⟨0, 0, none⟩ symArr.toList (fun j v hv => by
      have hadd : (⟨0, 0, none⟩ : Addr).add j = ⟨0, j, none⟩ := by unfold Addr.add; split <;> simp_all
      rw [hadd]
      have hv' : (symTab.map fun t => Value.string ⟨t.toArray⟩)[j]? = some v := hv
      rw [List.getElem?_map, Option.map_eq_some_iff] at hv'
      obtain ⟨t, ht, rfl⟩ := hv'
      exact h j t ht)
  have hsize : (Tryz.prog.info? 108).map (·.size) = some 27 := by kernel_rfl
  obtain ⟨i, hi, hs⟩ := Option.map_eq_some_iff.1 hsize
  have hagg : (isAgg 108).run Tryz.prog W = .ok true W := by
    unfold isAgg
    rw [Sem.run_bind, run_underlying Tryz.underlying108 W]
    rfl
  have hlen : symArr.toList.length = 27 := rfl
  rw [hlen] at hl
  simp [loadVar, Sem.run_bind, hagg, sizeOf, typeInfo, hi, hs, hl]

theorem wpList_symLoad {ops : Array Oper} {rest : List Oper} {o : Oper} {a : Act} {w : World} {Q : Exit → Act → World → Prop} (hgd : o.guard = none) (x : Operand) (ho : o.op = .load 108 x) (hx : a.eval x = .pointer (some ⟨0, 0, none⟩)) (hs : SymsAt w)
    (h : wpList Tryz.prog ops Q rest (a.put o.dst (.agg symArr)) w) : wpList Tryz.prog ops Q (o :: rest) a w :=
  wpList_plain hgd fun _ hK => by
    unfold Oper.wp execOp
    simp only [ho, hx, Instr.loadAt, Instr.sureAddr, Sem.run_bind, Sem.run_pure, Result.andThen_ok, symLoad w hs]
    exact hK _ _ h

end Go.Proofs.YtbgpboiblggmiaaGreatDoor

/-
  Walks over the program's lexer: classes of bytes, and runs of them.
-/
namespace Go.Proofs.YtbgpboiblggmiaaGreatDoor
open Go.RowKit

set_option maxHeartbeats 1000000 in
theorem has_any (c : ByteArray) (x : Int) (w : World) (hc : c.size ≤ 8) (h2 : c.size % 2 = 0) :
    Calls Tryz.prog 80 #[.string c, .int .u8 x] w fun e w' => e = .returned (.bool (Lx.inCls c.data.toList x)) ∧ w = w' := by
  obtain ⟨R, hR⟩ : ∃ R, R = Lx.inCls c.data.toList x := ⟨_, rfl⟩
  have HR := Lib.hid hR
  rw [← hR]
  clear hR
  go_enter Tryz.func80, Tryz.ntmps80
  go_wp2
  go_loop [5] (fun t => ∃ m : Nat, m ≤ c.size ∧ m % 2 = 0 ∧ t = .int .i64 m ∧ R = Lx.inCls (c.data.toList.drop m) x) (fun t => c.size - (intOf t).toNat)
  case atStart => exact ⟨0, by omega, rfl, rfl, HR.out⟩
  case round =>
    obtain ⟨m, hm, hm2, rfl, hr⟩ := hrel
    have Hr := Lib.hid hr
    clear hr
    by_cases hlt : m < c.size
    · have hlt1 : m + 1 < c.size := by omega
      have Ha := Lib.hid (Lx.inCls_at c.data.toList m x hlt1)
      by_cases ha : ((c[m].toNat : Int) ≤ x)
      · by_cases hb : (x ≤ (c[m + 1].toNat : Int))
        · have Hv := Lib.hid (show R = true by rw [Hr.out, Ha.out, decide_eq_true (show ((c.data.toList[m].toNat : Nat) : Int) ≤ x from ha), decide_eq_true (show x ≤ ((c.data.toList[m + 1].toNat : Nat) : Int) from hb)]; rfl)
          go_wp2
          go_ret
          exact ⟨ret_bool Hv.out.symm, rfl⟩
        · have Hv := Lib.hid (show R = Lx.inCls (c.data.toList.drop (m + 2)) x by rw [Hr.out, Ha.out, decide_eq_false (show ¬ x ≤ ((c.data.toList[m + 1].toNat : Nat) : Int) from hb)]; simp)
          go_wp2
          go_round
          case rel => exact ⟨m + 2, by omega, by omega, by go_num, Hv.out⟩
          case measure => simp [intOf]; omega
      · have Hv := Lib.hid (show R = Lx.inCls (c.data.toList.drop (m + 2)) x by rw [Hr.out, Ha.out, decide_eq_false (show ¬ ((c.data.toList[m].toNat : Nat) : Int) ≤ x from ha)]; simp)
        go_wp2
        go_round
        case rel => exact ⟨m + 2, by omega, by omega, by go_num, Hv.out⟩
        case measure => simp [intOf]; omega
    · go_wp2
      go_ret
      exact ⟨ret_bool (by rw [Hr.out, Lx.inCls_end _ _ _ (by show c.size ≤ m; omega)]), rfl⟩

theorem hasB (c : ByteArray) (x : Int) (b : Bool) (w : World) (hc : c.size ≤ 8) (h2 : c.size % 2 = 0) (hb : Lx.inCls c.data.toList x = b) :
    Calls Tryz.prog 80 #[.string c, .int .u8 x] w fun e w' => e = .returned (.bool b) ∧ w = w' := by
  subst hb
  exact has_any c x w hc h2

set_option maxHeartbeats 400000 in
theorem lacksB (c : ByteArray) (x : Int) (b : Bool) (w : World) (hc : c.size ≤ 8) (h2 : c.size % 2 = 0) (hb : Lx.inCls c.data.toList x = b) :
    Calls Tryz.prog 82 #[.string c, .int .u8 x] w fun e w' => e = .returned (.bool (!b)) ∧ w = w' := by
  have Hb := Lib.hid hb
  clear hb
  go_enter Tryz.func82, Tryz.ntmps82
  go_wp2_with (go_at_call 80; refine (hasB c x b _ hc h2 Hb.out).mono ?_; rintro e w' ⟨rfl, rfl⟩)
  go_ret
  exact ⟨rfl, rfl⟩

end Go.Proofs.YtbgpboiblggmiaaGreatDoor

/-
  Walks over the program's lexer: runs of bytes, and gaps.
-/
namespace Go.Proofs.YtbgpboiblggmiaaGreatDoor
open Go.RowKit

set_option maxHeartbeats 1000000 in
theorem runEnd_has (s c : ByteArray) (a : Nat) (p : UInt8 → Bool) (w : World) (h1 : a ≤ s.size) (hs : s.size ≤ 4000) (hc : c.size ≤ 8) (h2 : c.size % 2 = 0) (hp : ∀ x : UInt8, Lx.inCls c.data.toList (x.toNat : Int) = p x) :
    Calls Tryz.prog 79 #[.string s, .int .i64 a, .func (Fn.func 80) #[.string c] #[]] w fun e w' => e = .returned (.int .i64 ((a + Lx.run p (s.data.toList.drop a) : Nat) : Int)) ∧ w = w' := by
  obtain ⟨R, hR⟩ : ∃ R, R = a + Lx.run p (s.data.toList.drop a) := ⟨_, rfl⟩
  have HR := Lib.hid hR
  have Hp := Lib.hid hp
  rw [← hR]
  clear hR hp
  go_enter Tryz.func79, Tryz.ntmps79
  go_wp2
  go_loop [1] (fun t => ∃ k : Nat, k ≤ s.size ∧ t = .int .i64 k ∧ R = k + Lx.run p (s.data.toList.drop k)) (fun t => s.size - (intOf t).toNat)
  case atStart => exact ⟨a, h1, rfl, HR.out⟩
  case round =>
    obtain ⟨k, hk, rfl, hr⟩ := hrel
    have Hr := Lib.hid hr
    clear hr
    by_cases hlt : k < s.size
    · cases hb : p s.data.toList[k]
      · have Hs := Lib.hid (Lx.run_no p _ _ hlt hb)
        have Hb := Lib.hid hb
        clear hb
        go_wp2_with (go_at_call 80; refine (hasB c _ false _ hc h2 ((Hp.out _).trans Hb.out)).mono ?_; rintro e w' ⟨rfl, rfl⟩)
        go_ret
        exact ⟨by rw [Hr.out, Hs.out]; rfl, rfl⟩
      · have Hs := Lib.hid (Lx.run_yes p _ _ hlt hb)
        have Hb := Lib.hid hb
        clear hb
        go_wp2_with (go_at_call 80; refine (hasB c _ true _ hc h2 ((Hp.out _).trans Hb.out)).mono ?_; rintro e w' ⟨rfl, rfl⟩)
        go_round
        case rel => exact ⟨k + 1, by omega, by go_num, by rw [Hr.out, Hs.out]; omega⟩
        case measure => simp [intOf]; omega
    · go_wp2
      go_ret
      exact ⟨by rw [Hr.out, Lx.run_end _ _ _ (by show s.size ≤ k; omega)]; rfl, rfl⟩

set_option maxHeartbeats 1000000 in
theorem runEnd_lacks (s c : ByteArray) (a : Nat) (p : UInt8 → Bool) (w : World) (h1 : a ≤ s.size) (hs : s.size ≤ 4000) (hc : c.size ≤ 8) (h2 : c.size % 2 = 0) (hp : ∀ x : UInt8, Lx.inCls c.data.toList (x.toNat : Int) = !p x) :
    Calls Tryz.prog 79 #[.string s, .int .i64 a, .func (Fn.func 82) #[.string c] #[]] w fun e w' => e = .returned (.int .i64 ((a + Lx.run p (s.data.toList.drop a) : Nat) : Int)) ∧ w = w' := by
  obtain ⟨R, hR⟩ : ∃ R, R = a + Lx.run p (s.data.toList.drop a) := ⟨_, rfl⟩
  have HR := Lib.hid hR
  have Hp := Lib.hid hp
  rw [← hR]
  clear hR hp
  go_enter Tryz.func79, Tryz.ntmps79
  go_wp2
  go_loop [1] (fun t => ∃ k : Nat, k ≤ s.size ∧ t = .int .i64 k ∧ R = k + Lx.run p (s.data.toList.drop k)) (fun t => s.size - (intOf t).toNat)
  case atStart => exact ⟨a, h1, rfl, HR.out⟩
  case round =>
    obtain ⟨k, hk, rfl, hr⟩ := hrel
    have Hr := Lib.hid hr
    clear hr
    by_cases hlt : k < s.size
    · cases hb : p s.data.toList[k]
      · have Hs := Lib.hid (Lx.run_no p _ _ hlt hb)
        have Hb := Lib.hid hb
        clear hb
        go_wp2_with (go_at_call 82; refine (lacksB c _ true _ hc h2 ((Hp.out _).trans (congrArg not Hb.out))).mono ?_; rintro e w' ⟨rfl, rfl⟩)
        go_ret
        exact ⟨by rw [Hr.out, Hs.out]; rfl, rfl⟩
      · have Hs := Lib.hid (Lx.run_yes p _ _ hlt hb)
        have Hb := Lib.hid hb
        clear hb
        go_wp2_with (go_at_call 82; refine (lacksB c _ false _ hc h2 ((Hp.out _).trans (congrArg not Hb.out))).mono ?_; rintro e w' ⟨rfl, rfl⟩)
        go_round
        case rel => exact ⟨k + 1, by omega, by go_num, by rw [Hr.out, Hs.out]; omega⟩
        case measure => simp [intOf]; omega
    · go_wp2
      go_ret
      exact ⟨by rw [Hr.out, Lx.run_end _ _ _ (by show s.size ≤ k; omega)]; rfl, rfl⟩

set_option maxHeartbeats 400000 in
theorem hasPrefix_any (x : ByteArray) (w : World) (hs : x.size ≤ 4000) (b : Bool) (hb : (x.data.toList.take 2 == [47, 47]) = b) :
    Calls Tryz.prog 81 #[.string x, .string { data := #[47, 47] }] w fun e w' => e = .returned (.bool b) ∧ w = w' := by
  subst hb
  go_enter Tryz.func81, Tryz.ntmps81
  go_wp2
  · go_ret
    exact ⟨ret_bool (by rw [ByteArray.toList_eq, Lib.extract_data]; rfl), rfl⟩
  · go_ret
    refine ⟨ret_bool ?_, rfl⟩
    symm
    apply beq_eq_false_iff_ne.2
    intro h
    have hl := congrArg List.length h
    rw [List.length_take, show x.data.toList.length = x.size from rfl] at hl
    simp only [List.length_cons, List.length_nil] at hl
    omega

end Go.Proofs.YtbgpboiblggmiaaGreatDoor

/-
  Walks over the program's lexer: gaps, names.
-/
namespace Go.Proofs.YtbgpboiblggmiaaGreatDoor
open Go.RowKit

theorem white_run (s : ByteArray) (a : Nat) (w : World) (h1 : a ≤ s.size) (hs : s.size ≤ 4000) (k : Nat) (hk : k = a + Lx.run Lx.whiteU (s.data.toList.drop a)) :
    Calls Tryz.prog 79 #[.string s, .int .i64 a, .func (Fn.func 80) #[.string { data := #[9, 10, 13, 13, 32, 32] }] #[]] w fun e w' => e = .returned (.int .i64 k) ∧ w = w' := by
  subst hk
  exact runEnd_has s { data := #[9, 10, 13, 13, 32, 32] } a Lx.whiteU w h1 hs (by decide) (by decide) (fun x => Lx.cls_white _)
theorem other_run (s : ByteArray) (a : Nat) (w : World) (h1 : a ≤ s.size) (hs : s.size ≤ 4000) (k : Nat) (hk : k = a + Lx.run Lx.other (s.data.toList.drop a)) :
    Calls Tryz.prog 79 #[.string s, .int .i64 a, .func (Fn.func 82) #[.string { data := #[10, 10] }] #[]] w fun e w' => e = .returned (.int .i64 k) ∧ w = w' := by
  subst hk
  exact runEnd_lacks s { data := #[10, 10] } a Lx.other w h1 hs (by decide) (by decide) (fun x => by rw [show Lx.inCls ({ data := #[10, 10] } : ByteArray).data.toList (x.toNat : Int) = ((x.toNat : Int) == 10) from Lx.cls_feed _]; simp [Lx.other])
theorem word_run (s : ByteArray) (a : Nat) (w : World) (h1 : a ≤ s.size) (hs : s.size ≤ 4000) (k : Nat) (hk : k = a + Lx.run Lx.wordU (s.data.toList.drop a)) :
    Calls Tryz.prog 79 #[.string s, .int .i64 a, .func (Fn.func 80) #[.string { data := #[48, 57, 65, 90, 95, 95, 97, 122] }] #[]] w fun e w' => e = .returned (.int .i64 k) ∧ w = w' := by
  subst hk
  exact runEnd_has s { data := #[48, 57, 65, 90, 95, 95, 97, 122] } a Lx.wordU w h1 hs (by decide) (by decide) (fun x => Lx.cls_word _)
theorem digit_run (s : ByteArray) (a : Nat) (w : World) (h1 : a ≤ s.size) (hs : s.size ≤ 4000) (k : Nat) (hk : k = a + Lx.run Lx.digitU (s.data.toList.drop a)) :
    Calls Tryz.prog 79 #[.string s, .int .i64 a, .func (Fn.func 80) #[.string { data := #[48, 57] }] #[]] w fun e w' => e = .returned (.int .i64 k) ∧ w = w' := by
  subst hk
  exact runEnd_has s { data := #[48, 57] } a Lx.digitU w h1 hs (by decide) (by decide) (fun x => Lx.cls_digit _)

theorem run_at_le (p : UInt8 → Bool) (s : ByteArray) (a : Nat) (h : a ≤ s.size) : a + Lx.run p (s.data.toList.drop a) ≤ s.size := by
  have h1 := Lx.run_le p (s.data.toList.drop a)
  have h2 : s.data.toList.length = s.size := rfl
  rw [List.length_drop] at h1
  omega

theorem hasPrefix_at (s : ByteArray) (k : Nat) (b : Bool) (w : World) (hs : s.size ≤ 4000) (hb : Lx.begins s.data.toList [47, 47] k = b) :
    Calls Tryz.prog 81 #[.string (s.extract k s.size), .string { data := #[47, 47] }] w fun e w' => e = .returned (.bool b) ∧ w = w' := by
  refine hasPrefix_any (s.extract k s.size) w (by rw [ByteArray.size_extract]; omega) b ?_
  rw [Lib.extract_data, ← hb]
  unfold Lx.begins
  rw [List.take_of_length_le (l := List.drop k s.data.toList) (by rw [List.length_drop]; exact Nat.le_refl _)]
  rfl

set_option maxHeartbeats 1000000 in
theorem gapEnd_any (s : ByteArray) (a : Nat) (w : World) (h1 : a ≤ s.size) (hs : s.size ≤ 4000) :
    Calls Tryz.prog 50 #[.string s, .int .i64 a] w fun e w' => e = .returned (.int .i64 ((a + Lx.skip false (s.data.toList.drop a) : Nat) : Int)) ∧ w = w' := by
  obtain ⟨R, hR⟩ : ∃ R, R = a + Lx.skip false (s.data.toList.drop a) := ⟨_, rfl⟩
  obtain ⟨k0, hk0⟩ : ∃ k, k = a + Lx.run Lx.whiteU (s.data.toList.drop a) := ⟨_, rfl⟩
  have hk0s : k0 ≤ s.size := by rw [hk0]; exact run_at_le _ _ _ h1
  have Hg := Lib.hid (Lx.gap_white _ _ _ hk0)
  have Hn0 := Lib.hid (fun h : k0 < s.data.toList.length => Lx.run_stop_at Lx.whiteU s.data.toList a k0 hk0 h)
  have HR := Lib.hid hR
  have Hk0 := Lib.hid hk0
  rw [← hR]
  clear hR hk0
  go_enter Tryz.func50, Tryz.ntmps50
  go_wp2_with (go_at_call 79; refine (white_run s a _ h1 hs k0 Hk0.out).mono ?_; rintro e w' ⟨rfl, rfl⟩)
  go_loop [1] (fun t => ∃ k : Nat, k ≤ s.size ∧ t = .int .i64 k ∧ R = k + Lx.skip false (s.data.toList.drop k) ∧ ∀ h : k < s.data.toList.length, Lx.whiteU s.data.toList[k] = false) (fun t => s.size - (intOf t).toNat)
  case atStart => exact ⟨k0, hk0s, rfl, by rw [HR.out, Hg.out], Hn0.out⟩
  case round =>
    obtain ⟨k, hk, rfl, hr, hn⟩ := hrel
    have Hr := Lib.hid hr
    have Hn := Lib.hid hn
    clear hr hn
    cases hb : Lx.begins s.data.toList [47, 47] k
    · have Hs : Hid (Lx.skip false (s.data.toList.drop k) = 0) := Lib.hid (by
        by_cases hlt : k < s.size
        · exact Lx.skip_none _ _ hlt hb (Hn.out hlt)
        · exact Lx.skip_end _ _ _ (by show s.size ≤ k; omega))
      go_wp2_with (go_at_call 81; refine (hasPrefix_at s k false _ hs hb).mono ?_; rintro e w' ⟨rfl, rfl⟩)
      go_ret
      exact ⟨by rw [Hr.out, Hs.out]; rfl, rfl⟩
    · have hlt : k < s.size := by
        rcases Nat.lt_or_ge k s.size with h | h
        · exact h
        · exfalso
          unfold Lx.begins at hb
          rw [List.drop_eq_nil_of_le (by show s.size ≤ k; exact h)] at hb
          exact absurd hb (by decide)
      have Hs := Lib.hid (Lx.skip_note _ _ hlt hb)
      obtain ⟨j, hj⟩ : ∃ j, j = k + Lx.run Lx.other (s.data.toList.drop k) := ⟨_, rfl⟩
      have hjs : j ≤ s.size := by rw [hj]; exact run_at_le _ _ _ hk
      have hkj : k < j := by
        have h47 := ((Lx.begins2_iff _ _ hlt).1 hb).1
        have := Lx.run_yes Lx.other s.data.toList k hlt (by rw [h47]; decide)
        omega
      have Ho := Lib.hid (Lx.gap_other _ _ _ hj)
      have Hj := Lib.hid hj
      obtain ⟨m, hm⟩ : ∃ m, m = j + Lx.run Lx.whiteU (s.data.toList.drop j) := ⟨_, rfl⟩
      have hms : m ≤ s.size := by rw [hm]; exact run_at_le _ _ _ hjs
      have hjm : j ≤ m := by omega
      have Hw := Lib.hid (Lx.gap_white _ _ _ hm)
      have Hnm := Lib.hid (fun h : m < s.data.toList.length => Lx.run_stop_at Lx.whiteU s.data.toList j m hm h)
      have Hm := Lib.hid hm
      clear hj hm
      go_wp2_with (first | (go_at_call 81; refine (hasPrefix_at s k true _ hs hb).mono ?_; rintro e w' ⟨rfl, rfl⟩) | (go_at_call 79; ((with_reducible refine (other_run s k _ hk hs j Hj.out).mono ?_); rintro e w' ⟨rfl, rfl⟩)) | (go_at_call 79; ((with_reducible refine (white_run s j _ hjs hs m Hm.out).mono ?_); rintro e w' ⟨rfl, rfl⟩)))
      go_round
      case rel => exact ⟨m, hms, rfl, by rw [Hr.out, Hs.out, Ho.out, Hw.out], Hnm.out⟩
      case measure => simp [intOf]; omega

set_option maxHeartbeats 400000 in
theorem nameAt_ok (s : ByteArray) (a : Nat) (w : World) (h1 : a ≤ s.size) (hs : s.size ≤ 4000) (n : Nat) (hn : n = Lx.run Lx.wordU (s.data.toList.drop a)) (h16 : n ≤ 16) :
    Calls Tryz.prog 83 #[.string s, .int .i64 a] w fun e w' => e = .returned (.string (s.extract a (a + n))) ∧ w = w' := by
  have hk : a + n ≤ s.size := by rw [hn]; exact run_at_le _ _ _ h1
  obtain ⟨k, hkn⟩ : ∃ k, k = a + n := ⟨_, rfl⟩
  have Hk : Hid (k = a + Lx.run Lx.wordU (s.data.toList.drop a)) := Lib.hid (by rw [hkn, hn])
  have hk1 : a ≤ k := by omega
  have hk2 : k ≤ s.size := by omega
  have hk3 : k - a ≤ 16 := by omega
  rw [← hkn]
  clear hn hkn hk h16
  go_enter Tryz.func83, Tryz.ntmps83
  go_wp2_with (go_at_call 79; refine (word_run s a _ h1 hs k Hk.out).mono ?_; rintro e w' ⟨rfl, rfl⟩)
  go_ret
  exact ⟨rfl, rfl⟩

set_option maxHeartbeats 400000 in
theorem nameAt_long (s : ByteArray) (a : Nat) (w : World) (h1 : a ≤ s.size) (hs : s.size ≤ 4000) (n : Nat) (hn : n = Lx.run Lx.wordU (s.data.toList.drop a)) (h16 : 16 < n) :
    Calls Tryz.prog 83 #[.string s, .int .i64 a] w fun e w' => e = .returned (.string ⟨#[]⟩) ∧ w = w' := by
  have hk : a + n ≤ s.size := by rw [hn]; exact run_at_le _ _ _ h1
  obtain ⟨k, hkn⟩ : ∃ k, k = a + n := ⟨_, rfl⟩
  have Hk : Hid (k = a + Lx.run Lx.wordU (s.data.toList.drop a)) := Lib.hid (by rw [hkn, hn])
  have hk1 : a ≤ k := by omega
  have hk2 : k ≤ s.size := by omega
  have hk3 : 16 < k - a := by omega
  clear hn hkn hk h16
  go_enter Tryz.func83, Tryz.ntmps83
  go_wp2_with (go_at_call 79; refine (word_run s a _ h1 hs k Hk.out).mono ?_; rintro e w' ⟨rfl, rfl⟩)
  go_ret
  exact ⟨rfl, rfl⟩

theorem numB_no {nb lu : Bool} {k a c : Nat} (hb : nb = (decide ((k : Int) - a ≤ 9) && (!((c : Int) == 48) || ((k : Int) == a + 1)) && !lu)) (h : 9 < k - a ∨ (1 < k - a ∧ c = 48) ∨ lu = true) : nb = false := by
  rw [hb]
  rcases h with h | ⟨h, h'⟩ | h
  · rw [decide_eq_false (by omega)]; rfl
  · rw [h', show ((k : Int) == a + 1) = false from beq_eq_false_iff_ne.2 (by omega)]; simp
  · rw [h]; simp
theorem numB_yes {nb lu : Bool} {k a c : Nat} (hb : nb = (decide ((k : Int) - a ≤ 9) && (!((c : Int) == 48) || ((k : Int) == a + 1)) && !lu)) (h1 : k - a ≤ 9) (h2 : c ≠ 48 ∨ k - a ≤ 1) (hk : a < k) (h3 : lu = false) : nb = true := by
  rw [hb, decide_eq_true (by omega), h3]
  rcases h2 with h2 | h2
  · rw [show ((c : Int) == 48) = false from beq_eq_false_iff_ne.2 (by omega)]; rfl
  · rw [show ((k : Int) == a + 1) = true from beq_iff_eq.2 (by omega)]; simp
theorem ret_str {a b : ByteArray} (h : a = b) : Ending.returned (.string a) = .returned (.string b) := by rw [h]
theorem ext_first (s : ByteArray) (a k : Nat) (h : a < s.size) (h0 : 0 < (s.extract a k).size) : (s.extract a k)[0] = s[a] := by
  rw [ByteArray.getElem_extract]; simp

set_option maxHeartbeats 1000000 in
theorem numberAt_any (s : ByteArray) (a : Nat) (w : World) (h1 : a < s.size) (hs : s.size ≤ 4000) (hd : Lx.digitU s.data.toList[a] = true) (n : Nat) (hn : n = Lx.run Lx.digitU (s.data.toList.drop a)) :
    Calls Tryz.prog 84 #[.string s, .int .i64 a] w fun e w' => e = .returned (.string (if Lx.numOk (s.data.toList.drop a) n then s.extract a (a + n) else ⟨#[]⟩)) ∧ w = w' := by
  have hk : a + n ≤ s.size := by rw [hn]; exact run_at_le _ _ _ (by omega)
  have hn0 : 0 < n := by
    rw [hn, Lx.run_yes _ _ _ h1 hd]
    omega
  obtain ⟨k, hkn⟩ : ∃ k, k = a + n := ⟨_, rfl⟩
  have hkr : k = a + Lx.run Lx.digitU (s.data.toList.drop a) := by rw [hkn, hn]
  have hk1 : a < k := by omega
  have hk2 : k ≤ s.size := by omega
  have Hb := Lib.hid (Lx.numOk_eq s a k n h1 hkn.symm)
  obtain ⟨m, hm⟩ : ∃ m, m = k + Lx.run Lx.wordU (s.data.toList.drop k) := ⟨_, rfl⟩
  have hms : m ≤ s.size := by rw [hm]; exact run_at_le _ _ _ hk2
  have Hlu := Lib.hid (Lx.lu_run s.data.toList k m hm (fun h => Lx.run_stop_at Lx.digitU s.data.toList a k hkr h))
  have Hk := Lib.hid hkr
  have Hm := Lib.hid hm
  rw [← hkn]
  obtain ⟨T, hT⟩ : ∃ T, T = (if Lx.numOk (s.data.toList.drop a) n then s.extract a k else ⟨#[]⟩) := ⟨_, rfl⟩
  rw [← hT]
  have HT := Lib.hid hT
  clear hn hkn hk hkr hm hn0 hT
  have h1' : a ≤ s.size := by omega
  go_enter Tryz.func84, Tryz.ntmps84
  go_wp2_with (first | (go_at_call 79; ((with_reducible refine (digit_run s a _ h1' hs k Hk.out).mono ?_); rintro e w' ⟨rfl, rfl⟩)) | (go_at_call 79; ((with_reducible refine (word_run s k _ hk2 hs m Hm.out).mono ?_); rintro e w' ⟨rfl, rfl⟩)))
  all_goals go_ret
  · have h : 9 < ((k - a : Nat) : Int) ∨ ((((s.extract a k)[0]'(by rw [ByteArray.size_extract]; omega)).toNat : Int) == 48) = true := by assumption
    have h2 : 1 < ((k - a : Nat) : Int) := by assumption
    refine ⟨ret_str ?_, rfl⟩
    rw [HT.out, if_neg (by rw [numB_no Hb.out (by
      rcases h with h | h
      · exact .inl (by omega)
      · rw [ext_first s a k h1] at h
        exact .inr (.inl ⟨by omega, by have := beq_iff_eq.1 h; omega⟩))]; exact Bool.false_ne_true)]
  · have h : k < m := by assumption
    refine ⟨ret_str ?_, rfl⟩
    rw [HT.out, if_neg (by rw [numB_no Hb.out (.inr (.inr (by rw [Hlu.out, decide_eq_true h])))]; exact Bool.false_ne_true)]
  · have h : ((k - a : Nat) : Int) ≤ 9 ∧ ((((s.extract a k)[0]'(by rw [ByteArray.size_extract]; omega)).toNat : Int) == 48) = false := by assumption
    have hm : ¬ k < m := by assumption
    obtain ⟨h9, h⟩ := h
    rw [ext_first s a k h1] at h
    refine ⟨ret_str ?_, rfl⟩
    rw [HT.out, if_pos (numB_yes Hb.out (by omega) (.inl (by have := beq_eq_false_iff_ne.1 h; omega)) hk1 (by rw [Hlu.out, decide_eq_false hm]))]
  · have h : k < m := by assumption
    refine ⟨ret_str ?_, rfl⟩
    rw [HT.out, if_neg (by rw [numB_no Hb.out (.inr (.inr (by rw [Hlu.out, decide_eq_true h])))]; exact Bool.false_ne_true)]
  · have h9 : ((k - a : Nat) : Int) ≤ 9 := by assumption
    have hg : ((k - a : Nat) : Int) ≤ 1 := by assumption
    have hm : ¬ k < m := by assumption
    refine ⟨ret_str ?_, rfl⟩
    rw [HT.out, if_pos (numB_yes Hb.out (by omega) (.inr (by omega)) hk1 (by rw [Hlu.out, decide_eq_false hm]))]
  · have h : 9 < ((k - a : Nat) : Int) := by assumption
    refine ⟨ret_str ?_, rfl⟩
    rw [HT.out, if_neg (by rw [numB_no Hb.out (.inl (by omega))]; exact Bool.false_ne_true)]

end Go.Proofs.YtbgpboiblggmiaaGreatDoor

/-
  A walk over the program's search for a symbol: a labelled loop over its table.
-/
namespace Go.Proofs.YtbgpboiblggmiaaGreatDoor
open Go.RowKit

/-- the first symbol of the program's table, from an index on -/
def tabFrom (l : List UInt8) (i : Nat) : Option (List UInt8) := (symTab.drop i).find? fun t => l.take t.length == t
theorem tabFrom_yes (l t : List UInt8) (a i : Nat) (h : symTab[i]? = some t) (hb : Lx.begins l t a = true) : tabFrom (l.drop a) i = some t := by
  obtain ⟨hi, ht⟩ := List.getElem?_eq_some_iff.1 h
  unfold tabFrom
  rw [List.drop_eq_getElem_cons hi, ht]
  unfold Lx.begins at hb
  rw [List.find?_cons]
  simp only [hb]
theorem tabFrom_no (l t : List UInt8) (a i : Nat) (h : symTab[i]? = some t) (hb : Lx.begins l t a = false) : tabFrom (l.drop a) i = tabFrom (l.drop a) (i + 1) := by
  obtain ⟨hi, ht⟩ := List.getElem?_eq_some_iff.1 h
  unfold tabFrom
  rw [List.drop_eq_getElem_cons hi, ht]
  unfold Lx.begins at hb
  rw [List.find?_cons]
  simp only [hb]
theorem tabFrom_end (l : List UInt8) : tabFrom l 27 = none := rfl
theorem symTab_short : ∀ t ∈ symTab, t.length ≤ 3 ∧ 0 < t.length := by decide

/-- the first j bytes of a symbol stand at an offset -/
def Pre (l t : List UInt8) (a j : Nat) : Prop := (l.drop a).take j = t.take j
theorem pre_zero (l t : List UInt8) (a : Nat) : Pre l t a 0 := by simp [Pre]
theorem pre_all (l t : List UInt8) (a : Nat) (h : Pre l t a t.length) : Lx.begins l t a = true := by
  unfold Lx.begins
  unfold Pre at h
  rw [h, List.take_length]
  exact beq_self_eq_true _
theorem pre_next (l t : List UInt8) (a j : Nat) (h : Pre l t a j) (h1 : a + j < l.length) (h2 : j < t.length) (he : l[a + j] = t[j]) : Pre l t a (j + 1) := by
  unfold Pre at *
  rw [List.take_succ_eq_append_getElem (by rw [List.length_drop]; omega), List.take_succ_eq_append_getElem h2, h]
  simp [he]
theorem pre_end (l t : List UInt8) (a j : Nat) (h1 : l.length ≤ a + j) (h2 : j < t.length) : Lx.begins l t a = false := by
  unfold Lx.begins
  apply beq_eq_false_iff_ne.2
  intro h
  have hl := congrArg List.length h
  rw [List.length_take, List.length_drop] at hl
  omega
theorem pre_off (l t : List UInt8) (a j : Nat) (h1 : a + j < l.length) (h2 : j < t.length) (he : l[a + j] ≠ t[j]) : Lx.begins l t a = false := by
  unfold Lx.begins
  apply beq_eq_false_iff_ne.2
  intro h
  apply he
  have hj := congrArg (fun x => x[j]?) h
  simp only [List.getElem?_take, h2, if_true, List.getElem?_drop] at hj
  rw [List.getElem?_eq_getElem h1, List.getElem?_eq_getElem h2] at hj
  exact Option.some.inj hj

/-- a string's byte, read by an index that is a sum -/
theorem idx_str (s : ByteArray) (x : Int) (k : Nat) (hx : x = k) (hk : k < s.size) (W : World) : (Instr.index 9 (.string s) (.int .i64 x)).run Tryz.prog W = .ok (.int .u8 (s[k].toNat : Int)) W := by
  subst hx
  rw [run_index_string W _ s _ _ Tryz.underlying9]
  simp [hk]

/-- what the search answers -/
def symText : Option (List UInt8) → ByteArray
  | some t => ⟨t.toArray⟩
  | none => ⟨#[]⟩

set_option maxRecDepth 100000 in
set_option maxHeartbeats 1000000 in
theorem symbolAt_any (s : ByteArray) (a : Nat) (w : World) (h1 : a < s.size) (hs : s.size ≤ 4000) (hS : SymsAt w) (o : Option (List UInt8)) (ho : tabFrom (s.data.toList.drop a) 0 = o) (T : ByteArray) (hT : symText o = T) :
    Calls Tryz.prog 85 #[.string s, .int .i64 a] w fun e w' => e = .returned (.string T) ∧ Below w.heap.size w w' := by
  have Ho := Lib.hid ho
  have HS := Lib.hid hS
  have HT := Lib.hid hT
  clear ho hS hT
  go_enter Tryz.func85, Tryz.ntmps85
  go_wp2
  go_step3
  go_wp2
  go_step3
  go_wp2_with ((with_reducible refine wpList_symLoad rfl _ rfl rfl HS.out ?_))
  go_loopg [9] 27 (fun g s9 wx => ∃ i : Nat, i + g = 27 ∧ s9 = .int .i64 i ∧ Hid (tabFrom (s.data.toList.drop a) i = o) ∧ Below w.heap.size w wx)
  case atStart => exact ⟨0, rfl, rfl, Ho, Below.refl _ _⟩
  case round =>
    obtain ⟨i, hig, rfl, Hi, hbx⟩ := hrel
    cases gk with
    | zero =>
      obtain rfl : i = 27 := by omega
      have HR : Hid (T = ⟨#[]⟩) := Lib.hid (by rw [← HT.out, ← Hi.out, tabFrom_end]; rfl)
      go_wp2
      try rw [Exit.noGoto_ret]
      go_ret
      exact ⟨ret_str HR.out.symm, hbx⟩
    | succ g =>
      obtain ⟨t, ht⟩ : ∃ t, symTab[i]? = some t := ⟨_, List.getElem?_eq_getElem (show i < symTab.length from (show i < 27 by omega))⟩
      have hidx := symIdx i t ht
      have hlen : t.length ≤ 3 := (symTab_short t (List.mem_of_getElem? ht)).1
      have Ht := Lib.hid ht
      have hi27 : i < 27 := by omega
      clear ht
      go_wp2
      obtain ⟨wo, rfl⟩ : ∃ wo : World, wo = wr := ⟨_, rfl⟩
      have Hbx := Lib.hid hbx
      clear hbx
      go_loopg [14] t.length (fun h s14 wy => ∃ j : Nat, j + h = t.length ∧ s14 = .int .i64 j ∧ Hid (Pre s.data.toList t a j) ∧ Hid (Below w.heap.size w wy))
      case atStart => exact ⟨0, by omega, rfl, Lib.hid (pre_zero _ _ _), Hbx⟩
      case round =>
        obtain ⟨j, hjh, rfl, Hj, Hby⟩ := hrel
        cases gk with
        | zero =>
          obtain rfl : j = t.length := by omega
          have HR : Hid (T = ⟨t.toArray⟩) := Lib.hid (by rw [← HT.out, ← Hi.out, tabFrom_yes _ t a i Ht.out (pre_all _ _ _ Hj.out)]; rfl)
          go_wp2
          try rw [Exit.noGoto_ret]
          go_ret
          exact ⟨ret_str HR.out.symm, Hby.out⟩
        | succ h =>
          have hjt : j < t.length := by omega
          by_cases hend : a + j = s.size
          · have hno := Lib.hid (tabFrom_no _ t a i Ht.out (pre_end _ t a j (by show s.size ≤ a + j; omega) hjt))
            have htest : (((a : Int) + (j : Int)) == (s.size : Int)) = true := beq_iff_eq.2 (by omega)
            clear hend
            go_wp2
            go_quiet (fail)
            go_wp2
            go_roundg g
            case measure => omega
            case rel => exact ⟨i + 1, by omega, by go_num, Lib.hid (by rw [← Hi.out, hno.out]), by first | exact below_drewN Hby.out _ | exact Hby.out⟩
          · have hlt : a + j < s.size := by
              rcases Nat.lt_or_ge (a + j) s.size with h | h
              · exact h
              · exfalso
                rcases Nat.lt_or_ge 0 j with h0 | h0
                · obtain ⟨j', rfl⟩ : ∃ j', j = j' + 1 := ⟨j - 1, by omega⟩
                  have hp := congrArg List.length Hj.out
                  rw [List.length_take, List.length_take, List.length_drop] at hp
                  have : s.data.toList.length = s.size := rfl
                  omega
                · omega
            have htest : (((a : Int) + (j : Int)) == (s.size : Int)) = false := beq_eq_false_iff_ne.2 (by omega)
            have hjz : j < (⟨t.toArray⟩ : ByteArray).size := by show j < t.toArray.size; simpa using hjt
            by_cases hc : s.data.toList[a + j] = t[j]
            · have Hnext := Lib.hid (pre_next _ t a j Hj.out hlt hjt hc)
              have hct : ((s[a + j].toNat : Int) != (t[j].toNat : Int)) = false := by
                rw [show s[a + j] = s.data.toList[a + j] from rfl, hc]
                exact bne_self_eq_false _
              clear hend hc
              have hi1 : ∀ W, (Instr.index 9 (.string s) (.int .i64 ((a : Int) + (j : Int)))).run Tryz.prog W = .ok (.int .u8 (s[a + j].toNat : Int)) W := idx_str s _ (a + j) (by omega) hlt
              have hi2 : ∀ W, (Instr.index 9 (.string ⟨t.toArray⟩) (.int .i64 (j : Int))).run Tryz.prog W = .ok (.int .u8 (t[j].toNat : Int)) W := idx_str ⟨t.toArray⟩ _ j rfl hjz
              have hsum : IntKind.i64.wrap ((a : Int) + (j : Int)) = (a : Int) + (j : Int) := IntWalk.i64_in _ (by omega)
              go_wp2
              go_quiet (fail)
              clear hsum hi1 hi2
              go_wp2
              go_roundg h
              case measure => omega
              case rel => exact ⟨j + 1, by omega, by go_num, Hnext, Lib.hid (by first | exact below_drewN Hby.out _ | exact Hby.out)⟩
            · have hno := Lib.hid (tabFrom_no _ t a i Ht.out (pre_off _ t a j hlt hjt hc))
              have hct : ((s[a + j].toNat : Int) != (t[j].toNat : Int)) = true := by
                rw [bne_iff_ne]
                intro h
                apply hc
                apply UInt8.toNat_inj.1
                show s[a + j].toNat = t[j].toNat
                omega
              clear hend hc
              have hi1 : ∀ W, (Instr.index 9 (.string s) (.int .i64 ((a : Int) + (j : Int)))).run Tryz.prog W = .ok (.int .u8 (s[a + j].toNat : Int)) W := idx_str s _ (a + j) (by omega) hlt
              have hi2 : ∀ W, (Instr.index 9 (.string ⟨t.toArray⟩) (.int .i64 (j : Int))).run Tryz.prog W = .ok (.int .u8 (t[j].toNat : Int)) W := idx_str ⟨t.toArray⟩ _ j rfl hjz
              have hsum : IntKind.i64.wrap ((a : Int) + (j : Int)) = (a : Int) + (j : Int) := IntWalk.i64_in _ (by omega)
              go_wp2
              go_quiet (fail)
              clear hsum hi1 hi2
              go_wp2
              go_roundg g
              case measure => omega
              case rel => exact ⟨i + 1, by omega, by go_num, Lib.hid (by rw [← Hi.out, hno.out]), by first | exact below_drewN Hby.out _ | exact Hby.out⟩

end Go.Proofs.YtbgpboiblggmiaaGreatDoor

/-
  Walks over the program's tokenAt, a branch each.
-/
namespace Go.Proofs.YtbgpboiblggmiaaGreatDoor
open Go.RowKit

set_option maxHeartbeats 1000000 in
theorem at_name_yes (s : ByteArray) (a : Nat) (w : World) (h1 : a < s.size) (hl : Lx.inCls ({ data := #[65, 90, 97, 122] } : ByteArray).data.toList (s[a].toNat : Int) = true) (T : ByteArray) (hT : T.toList.isEmpty = false)
    (hcall : Hid (∀ w' : World, Below w.heap.size w w' → Calls Tryz.prog 83 #[.string s, .int .i64 a] w' fun e w'' => e = .returned (.string T) ∧ Below w'.heap.size w' w'')) :
    Calls Tryz.prog 51 #[.string s, .int .i64 a] w fun e w' => e = .returned (.tuple #[.agg #[.int .i64 1, .string T, .int .i64 a], .bool true]) ∧ Below w.heap.size w w' := by
  go_enter Tryz.func51, Tryz.ntmps51
  go_wp2_with (first | (go_at_call 80; ((with_reducible refine (hasB { data := #[65, 90, 97, 122] } _ true _ (by decide) (by decide) hl).mono ?_); rintro e w' ⟨rfl, rfl⟩)) | (go_at_call 83; refine (hcall.out _ ((Below.refl _ _).alloc (Nat.le_refl _) _)).mono ?_; rintro e w' ⟨rfl, hb⟩; obtain ⟨hc, hf⟩ := bcell hb))
  obtain ⟨hc, hf⟩ := bcell hb
  refine bodyPost_ret (v := .tuple #[.agg #[.int .i64 1, .string T, .int .i64 a], .bool true]) ?_ rfl ⟨rfl, ret_box hb _ _ _⟩
  simp [results, Tryz.results51, go_sem, hc]

set_option maxHeartbeats 1000000 in
theorem at_name_no (s : ByteArray) (a : Nat) (w : World) (h1 : a < s.size) (hl : Lx.inCls ({ data := #[65, 90, 97, 122] } : ByteArray).data.toList (s[a].toNat : Int) = true) 
    (hcall : Hid (∀ w' : World, Below w.heap.size w w' → Calls Tryz.prog 83 #[.string s, .int .i64 a] w' fun e w'' => e = .returned (.string ⟨#[]⟩) ∧ Below w'.heap.size w' w'')) :
    Calls Tryz.prog 51 #[.string s, .int .i64 a] w fun e w' => e = .returned (.tuple #[.agg #[.int .i64 0, .string ⟨#[]⟩, .int .i64 0], .bool false]) ∧ Below w.heap.size w w' := by
  go_enter Tryz.func51, Tryz.ntmps51
  go_wp2_with (first | (go_at_call 80; ((with_reducible refine (hasB { data := #[65, 90, 97, 122] } _ true _ (by decide) (by decide) hl).mono ?_); rintro e w' ⟨rfl, rfl⟩)) | (go_at_call 83; refine (hcall.out _ ((Below.refl _ _).alloc (Nat.le_refl _) _)).mono ?_; rintro e w' ⟨rfl, hb⟩; obtain ⟨hc, hf⟩ := bcell hb))
  obtain ⟨hc, hf⟩ := bcell hb
  refine bodyPost_ret (v := .tuple #[.agg #[.int .i64 0, .string ⟨#[]⟩, .int .i64 0], .bool false]) ?_ rfl ⟨rfl, ret_box hb _ _ _⟩
  simp [results, Tryz.results51, go_sem, hc]

set_option maxHeartbeats 1000000 in
theorem at_number_yes (s : ByteArray) (a : Nat) (w : World) (h1 : a < s.size) (hl : Lx.inCls ({ data := #[65, 90, 97, 122] } : ByteArray).data.toList (s[a].toNat : Int) = false) (hd : Lx.inCls ({ data := #[48, 57] } : ByteArray).data.toList (s[a].toNat : Int) = true) (T : ByteArray) (hT : T.toList.isEmpty = false)
    (hcall : Hid (∀ w' : World, Below w.heap.size w w' → Calls Tryz.prog 84 #[.string s, .int .i64 a] w' fun e w'' => e = .returned (.string T) ∧ Below w'.heap.size w' w'')) :
    Calls Tryz.prog 51 #[.string s, .int .i64 a] w fun e w' => e = .returned (.tuple #[.agg #[.int .i64 2, .string T, .int .i64 a], .bool true]) ∧ Below w.heap.size w w' := by
  go_enter Tryz.func51, Tryz.ntmps51
  go_wp2_with (first | (go_at_call 80; ((with_reducible refine (hasB { data := #[65, 90, 97, 122] } _ false _ (by decide) (by decide) hl).mono ?_); rintro e w' ⟨rfl, rfl⟩)) | (go_at_call 80; ((with_reducible refine (hasB { data := #[48, 57] } _ true _ (by decide) (by decide) hd).mono ?_); rintro e w' ⟨rfl, rfl⟩)) | (go_at_call 84; refine (hcall.out _ ((Below.refl _ _).alloc (Nat.le_refl _) _)).mono ?_; rintro e w' ⟨rfl, hb⟩; obtain ⟨hc, hf⟩ := bcell hb))
  obtain ⟨hc, hf⟩ := bcell hb
  refine bodyPost_ret (v := .tuple #[.agg #[.int .i64 2, .string T, .int .i64 a], .bool true]) ?_ rfl ⟨rfl, ret_box hb _ _ _⟩
  simp [results, Tryz.results51, go_sem, hc]

set_option maxHeartbeats 1000000 in
theorem at_number_no (s : ByteArray) (a : Nat) (w : World) (h1 : a < s.size) (hl : Lx.inCls ({ data := #[65, 90, 97, 122] } : ByteArray).data.toList (s[a].toNat : Int) = false) (hd : Lx.inCls ({ data := #[48, 57] } : ByteArray).data.toList (s[a].toNat : Int) = true) 
    (hcall : Hid (∀ w' : World, Below w.heap.size w w' → Calls Tryz.prog 84 #[.string s, .int .i64 a] w' fun e w'' => e = .returned (.string ⟨#[]⟩) ∧ Below w'.heap.size w' w'')) :
    Calls Tryz.prog 51 #[.string s, .int .i64 a] w fun e w' => e = .returned (.tuple #[.agg #[.int .i64 0, .string ⟨#[]⟩, .int .i64 0], .bool false]) ∧ Below w.heap.size w w' := by
  go_enter Tryz.func51, Tryz.ntmps51
  go_wp2_with (first | (go_at_call 80; ((with_reducible refine (hasB { data := #[65, 90, 97, 122] } _ false _ (by decide) (by decide) hl).mono ?_); rintro e w' ⟨rfl, rfl⟩)) | (go_at_call 80; ((with_reducible refine (hasB { data := #[48, 57] } _ true _ (by decide) (by decide) hd).mono ?_); rintro e w' ⟨rfl, rfl⟩)) | (go_at_call 84; refine (hcall.out _ ((Below.refl _ _).alloc (Nat.le_refl _) _)).mono ?_; rintro e w' ⟨rfl, hb⟩; obtain ⟨hc, hf⟩ := bcell hb))
  obtain ⟨hc, hf⟩ := bcell hb
  refine bodyPost_ret (v := .tuple #[.agg #[.int .i64 0, .string ⟨#[]⟩, .int .i64 0], .bool false]) ?_ rfl ⟨rfl, ret_box hb _ _ _⟩
  simp [results, Tryz.results51, go_sem, hc]

set_option maxHeartbeats 1000000 in
theorem at_symbol_yes (s : ByteArray) (a : Nat) (w : World) (h1 : a < s.size) (hl : Lx.inCls ({ data := #[65, 90, 97, 122] } : ByteArray).data.toList (s[a].toNat : Int) = false) (hd : Lx.inCls ({ data := #[48, 57] } : ByteArray).data.toList (s[a].toNat : Int) = false) (T : ByteArray) (hT : T.toList.isEmpty = false)
    (hcall : Hid (∀ w' : World, Below w.heap.size w w' → Calls Tryz.prog 85 #[.string s, .int .i64 a] w' fun e w'' => e = .returned (.string T) ∧ Below w'.heap.size w' w'')) :
    Calls Tryz.prog 51 #[.string s, .int .i64 a] w fun e w' => e = .returned (.tuple #[.agg #[.int .i64 3, .string T, .int .i64 a], .bool true]) ∧ Below w.heap.size w w' := by
  go_enter Tryz.func51, Tryz.ntmps51
  go_wp2_with (first | (go_at_call 80; ((with_reducible refine (hasB { data := #[65, 90, 97, 122] } _ false _ (by decide) (by decide) hl).mono ?_); rintro e w' ⟨rfl, rfl⟩)) | (go_at_call 80; ((with_reducible refine (hasB { data := #[48, 57] } _ false _ (by decide) (by decide) hd).mono ?_); rintro e w' ⟨rfl, rfl⟩)) | (go_at_call 85; refine (hcall.out _ ((Below.refl _ _).alloc (Nat.le_refl _) _)).mono ?_; rintro e w' ⟨rfl, hb⟩; obtain ⟨hc, hf⟩ := bcell hb))
  obtain ⟨hc, hf⟩ := bcell hb
  refine bodyPost_ret (v := .tuple #[.agg #[.int .i64 3, .string T, .int .i64 a], .bool true]) ?_ rfl ⟨rfl, ret_box hb _ _ _⟩
  simp [results, Tryz.results51, go_sem, hc]

set_option maxHeartbeats 1000000 in
theorem at_symbol_no (s : ByteArray) (a : Nat) (w : World) (h1 : a < s.size) (hl : Lx.inCls ({ data := #[65, 90, 97, 122] } : ByteArray).data.toList (s[a].toNat : Int) = false) (hd : Lx.inCls ({ data := #[48, 57] } : ByteArray).data.toList (s[a].toNat : Int) = false) 
    (hcall : Hid (∀ w' : World, Below w.heap.size w w' → Calls Tryz.prog 85 #[.string s, .int .i64 a] w' fun e w'' => e = .returned (.string ⟨#[]⟩) ∧ Below w'.heap.size w' w'')) :
    Calls Tryz.prog 51 #[.string s, .int .i64 a] w fun e w' => e = .returned (.tuple #[.agg #[.int .i64 0, .string ⟨#[]⟩, .int .i64 0], .bool false]) ∧ Below w.heap.size w w' := by
  go_enter Tryz.func51, Tryz.ntmps51
  go_wp2_with (first | (go_at_call 80; ((with_reducible refine (hasB { data := #[65, 90, 97, 122] } _ false _ (by decide) (by decide) hl).mono ?_); rintro e w' ⟨rfl, rfl⟩)) | (go_at_call 80; ((with_reducible refine (hasB { data := #[48, 57] } _ false _ (by decide) (by decide) hd).mono ?_); rintro e w' ⟨rfl, rfl⟩)) | (go_at_call 85; refine (hcall.out _ ((Below.refl _ _).alloc (Nat.le_refl _) _)).mono ?_; rintro e w' ⟨rfl, hb⟩; obtain ⟨hc, hf⟩ := bcell hb))
  obtain ⟨hc, hf⟩ := bcell hb
  refine bodyPost_ret (v := .tuple #[.agg #[.int .i64 0, .string ⟨#[]⟩, .int .i64 0], .bool false]) ?_ rfl ⟨rfl, ret_box hb _ _ _⟩
  simp [results, Tryz.results51, go_sem, hc]

end Go.Proofs.YtbgpboiblggmiaaGreatDoor

/-
  The program's table of symbols and the reference's find the same symbol.
-/
namespace Go.Proofs.YtbgpboiblggmiaaGreatDoor

theorem find_cons_eq (t : List UInt8) (ts : List (List UInt8)) (l : List UInt8) : (t :: ts).find? (fun t => l.take t.length == t) = if l.take t.length = t then some t else ts.find? (fun t => l.take t.length == t) := by
  rw [List.find?_cons]
  by_cases h : l.take t.length = t
  · rw [if_pos h, beq_iff_eq.2 h]
  · rw [if_neg h, beq_eq_false_iff_ne.2 h]

theorem sym_same (l : List UInt8) : tabFrom l 0 = Lx.sym l := by
  unfold tabFrom Lx.sym
  rw [List.drop_zero]
  unfold symTab Lx.refSyms
  simp only [find_cons_eq]
  rcases l with _ | ⟨c, _ | ⟨d, _ | ⟨e, r⟩⟩⟩
  · simp
  · by_cases h61 : c = 61
    · subst h61; simp
    by_cases h58 : c = 58
    · subst h58; simp
    by_cases h33 : c = 33
    · subst h33; simp
    by_cases h60 : c = 60
    · subst h60; simp
    by_cases h38 : c = 38
    · subst h38; simp
    by_cases h124 : c = 124
    · subst h124; simp
    simp [h61, h58, h33, h60, h38, h124]
  · by_cases h61 : c = 61
    · subst h61; simp
    by_cases h58 : c = 58
    · subst h58; simp
    by_cases h33 : c = 33
    · subst h33; simp
    by_cases h60 : c = 60
    · subst h60; simp
    by_cases h38 : c = 38
    · subst h38; simp
    by_cases h124 : c = 124
    · subst h124; simp
    simp [h61, h58, h33, h60, h38, h124]
  · by_cases h61 : c = 61
    · subst h61; simp
    by_cases h58 : c = 58
    · subst h58; simp
    by_cases h33 : c = 33
    · subst h33; simp
    by_cases h60 : c = 60
    · subst h60; simp
    by_cases h38 : c = 38
    · subst h38; simp
    by_cases h124 : c = 124
    · subst h124; simp
    simp [h61, h58, h33, h60, h38, h124]

end Go.Proofs.YtbgpboiblggmiaaGreatDoor

/-
  The program's tokenAt by one contract: it answers what chapter 1 says.
-/
namespace Go.Proofs.YtbgpboiblggmiaaGreatDoor
open Go.RowKit

theorem symsAt_pos {w : World} (h : SymsAt w) : 0 < w.heap.size := World.block_lt_of_cell? w ⟨0, 0, none⟩ (h 0 [61, 61, 62] rfl)

theorem cls_letter_at (s : ByteArray) (a : Nat) (h1 : a < s.size) (b : Bool) (h : Lx.letterU s.data.toList[a] = b) : Lx.inCls ({ data := #[65, 90, 97, 122] } : ByteArray).data.toList (s[a].toNat : Int) = b :=
  (Lx.cls_letter _).trans h
theorem cls_digit_at (s : ByteArray) (a : Nat) (h1 : a < s.size) (b : Bool) (h : Lx.digitU s.data.toList[a] = b) : Lx.inCls ({ data := #[48, 57] } : ByteArray).data.toList (s[a].toNat : Int) = b :=
  (Lx.cls_digit _).trans h
theorem same_calls {f : FuncId} {args : Array Value} {w : World} {T : ByteArray} (h : Calls Tryz.prog f args w fun e w'' => e = .returned (.string T) ∧ w = w'') : Calls Tryz.prog f args w fun e w'' => e = .returned (.string T) ∧ Below w.heap.size w w'' :=
  h.mono fun _ _ ⟨he, hw⟩ => ⟨he, hw ▸ Below.refl _ _⟩
theorem not_empty (T : ByteArray) (h : 0 < T.size) : T.toList.isEmpty = false := by
  rw [ByteArray.toList_eq]
  cases hT : T.data.toList with
  | nil => have : T.data.toList.length = T.size := rfl; rw [hT] at this; simp at this; omega
  | cons a r => rfl

theorem tokenAt_yes (s : ByteArray) (a : Nat) (w : World) (h1 : a < s.size) (hs : s.size ≤ 4000) (hS : SymsAt w) (kd n : Nat) (h : Lx.tok (s.data.toList.drop a) = some (kd, n)) :
    Calls Tryz.prog 51 #[.string s, .int .i64 a] w (TokYes s a kd n w) := by
  have hp0 := (Lx.tok_pos _ _ _ h).1
  have hp := (Lx.tok_pos _ _ _ h).2
  rw [List.length_drop] at hp
  have hp' : a + n ≤ s.size := by have : s.data.toList.length = s.size := rfl; omega
  have hne : (s.extract a (a + n)).toList.isEmpty = false := not_empty _ (by rw [extract_size s a n hp']; exact hp0)
  cases hl : Lx.letterU s.data.toList[a]
  · cases hd : Lx.digitU s.data.toList[a]
    · rw [Lx.tok_sym _ _ h1 hl hd] at h
      cases ho : Lx.sym (s.data.toList.drop a) with
      | none => rw [ho] at h; cases h
      | some t =>
        rw [ho] at h
        simp only [Option.map_some, Option.some.injEq, Prod.mk.injEq] at h
        obtain ⟨rfl, rfl⟩ := h
        have hsl := Lx.sym_len _ _ ho
        have hts : (⟨t.toArray⟩ : ByteArray).size = t.length := by show t.toArray.size = t.length; simp
        refine (at_symbol_yes s a w h1 (cls_letter_at s a h1 _ hl) (cls_digit_at s a h1 _ hd) ⟨t.toArray⟩ (not_empty _ (by rw [hts]; exact hp0)) (Lib.hid fun w' hb => symbolAt_any s a w' h1 hs (symsAt_below hS hb (symsAt_pos hS)) (some t) (by rw [sym_same, ho]) _ rfl)).mono fun e w' ⟨he, hb⟩ => ⟨hb, _, hts, ?_, he⟩
        rw [hsl.1]
    · rw [Lx.tok_digit _ _ h1 hl hd] at h
      split at h
      · rename_i hok
        simp only [Option.some.injEq, Prod.mk.injEq] at h
        obtain ⟨rfl, hn⟩ := h
        refine (at_number_yes s a w h1 (cls_letter_at s a h1 _ hl) (cls_digit_at s a h1 _ hd) _ hne (Lib.hid fun w' _ => same_calls ?_)).mono fun e w' ⟨he, hb⟩ => ⟨hb, _, extract_size s a n hp', extract_text s a n, he⟩
        have := numberAt_any s a w' h1 hs hd n hn.symm
        rw [← hn] at this ⊢
        rw [if_pos hok] at this
        exact this
      · cases h
  · rw [Lx.tok_letter _ _ h1 hl] at h
    split at h
    · rename_i hok
      simp only [Option.some.injEq, Prod.mk.injEq] at h
      obtain ⟨rfl, hn⟩ := h
      exact (at_name_yes s a w h1 (cls_letter_at s a h1 _ hl) _ hne (Lib.hid fun w' _ => same_calls (nameAt_ok s a w' (by omega) hs n hn.symm (by omega)))).mono fun e w' ⟨he, hb⟩ => ⟨hb, _, extract_size s a n hp', extract_text s a n, he⟩
    · cases h

theorem tokenAt_no (s : ByteArray) (a : Nat) (w : World) (h1 : a < s.size) (hs : s.size ≤ 4000) (hS : SymsAt w) (h : Lx.tok (s.data.toList.drop a) = none) :
    Calls Tryz.prog 51 #[.string s, .int .i64 a] w (TokNo w) := by
  cases hl : Lx.letterU s.data.toList[a]
  · cases hd : Lx.digitU s.data.toList[a]
    · rw [Lx.tok_sym _ _ h1 hl hd] at h
      cases ho : Lx.sym (s.data.toList.drop a) with
      | some t => rw [ho] at h; cases h
      | none => exact (at_symbol_no s a w h1 (cls_letter_at s a h1 _ hl) (cls_digit_at s a h1 _ hd) (Lib.hid fun w' hb => symbolAt_any s a w' h1 hs (symsAt_below hS hb (symsAt_pos hS)) none (by rw [sym_same, ho]) _ rfl)).mono fun e w' ⟨he, hb⟩ => ⟨hb, 0, 0, _, he⟩
    · rw [Lx.tok_digit _ _ h1 hl hd] at h
      split at h
      · cases h
      · rename_i hok
        refine (at_number_no s a w h1 (cls_letter_at s a h1 _ hl) (cls_digit_at s a h1 _ hd) (Lib.hid fun w' _ => same_calls ?_)).mono fun e w' ⟨he, hb⟩ => ⟨hb, 0, 0, _, he⟩
        have := numberAt_any s a w' h1 hs hd _ rfl
        rw [if_neg hok] at this
        exact this
  · rw [Lx.tok_letter _ _ h1 hl] at h
    split at h
    · cases h
    · rename_i hok
      exact (at_name_no s a w h1 (cls_letter_at s a h1 _ hl) (Lib.hid fun w' _ => same_calls (nameAt_long s a w' (by omega) hs _ rfl (by omega)))).mono fun e w' ⟨he, hb⟩ => ⟨hb, 0, 0, _, he⟩

theorem gap_int (s : ByteArray) (a : Int) (n r : Nat) (w : World) (ha : a = n) (h1 : n ≤ s.size) (hs : s.size ≤ 4000) (hr : r = n + Lx.skip false (s.data.toList.drop n)) :
    Calls Tryz.prog 50 #[.string s, .int .i64 a] w fun e w' => e = .returned (.int .i64 r) ∧ w = w' := by
  subst ha
  subst hr
  exact gapEnd_any s n w h1 hs

end Go.Proofs.YtbgpboiblggmiaaGreatDoor

/-
  A walk over the program's Lex.
-/
namespace Go.Proofs.YtbgpboiblggmiaaGreatDoor
open Go.RowKit

set_option maxHeartbeats 400000 in
theorem plex_big (s : ByteArray) (w : World) (h : 4000 < s.size) (hm : s.size ≤ maxLen) : Calls Tryz.prog 31 #[.string s] w (LexSaid s.data.toList w) := by
  unfold maxLen at hm
  go_enter Tryz.func31, Tryz.ntmps31
  go_wp2
  go_ret3
  exact lexSaid_of (Lx.lex_big _ h) (Below.refl _ _) (World.ownsRow_nil _ _ _ _)

set_option maxRecDepth 100000 in
set_option maxHeartbeats 1000000 in
theorem plex_small (s : ByteArray) (w : World) (hs : s.size ≤ 4000) (hS : SymsAt w) : Calls Tryz.prog 31 #[.string s] w (LexSaid s.data.toList w) := by
  have HH := symsAt_pos hS
  have HS := Lib.hid hS
  clear hS
  have hlen : s.data.toList.length = s.size := rfl
  have hstart := Lx.lex_rest s.data.toList (by omega)
  have hk0 := Lx.skip_le s.data.toList false
  obtain ⟨k0, hk0e⟩ : ∃ k, k = Lx.skip false s.data.toList := ⟨_, rfl⟩
  rw [← hk0e] at hstart hk0
  rw [hlen] at hstart hk0
  have Hk0 := Lib.hid hk0e
  have Hstart := Lib.hid hstart
  clear hk0e hstart hlen
  obtain ⟨i0, hi, hz0, hz1, hz2⟩ := info_parts infoTok
  go_enter Tryz.func31, Tryz.ntmps31
  go_wp2_with (go_at_call 50; refine (gap_int s 0 0 k0 _ rfl (by omega) hs (by rw [Hk0.out]; simp)).mono ?_; rintro e w' ⟨rfl, rfl⟩)
  go_loopw [5, 6] (fun v p wr => ∃ (acc : List Lx.Tok) (k f : Nat), k ≤ s.size ∧ acc.length ≤ 1500 ∧ p = .int .i64 k ∧ wr.ownsRow w.heap.size 53 3 v acc.length (toksCells acc) ∧ Below w.heap.size w wr ∧ s.size - k < f ∧ Lx.lex s.data.toList = Lx.rest f s.data.toList k acc) (fun _ p _ => s.size - (intOf p).toNat)
  case atStart => exact ⟨[], k0, s.size + 1, hk0, by simp, rfl, World.ownsRow_nil _ _ _ _, Below.refl _ _, by omega, Hstart.out⟩
  case round =>
    obtain ⟨acc, k, f, hk, hacc, rfl, hown, hb, hf, hr⟩ := hrel
    obtain ⟨va, cap, hv⟩ := ownsRow_form hown
    subst hv
    have Hr := Lib.hid hr
    clear hr
    by_cases hlt : k < s.size
    · have hf0 : 0 < f := by omega
      by_cases hc : acc.length = 1500
      · have Hfull := Lib.hid (Lx.rest_full f _ k acc hlt hf0 hc)
        have hge : 1500 ≤ acc.length := by omega
        clear hc
        go_wp2
        go_ret3
        exact lexSaid_of (by rw [Hr.out, Hfull.out]) hb (World.ownsRow_nil _ _ _ _)
      · have hc' : acc.length < 1500 := by omega
        cases ht : Lx.tok (s.data.toList.drop k) with
        | none =>
          have Hn := Lib.hid (Lx.rest_none f _ k acc hlt hf0 hc ht)
          have Ht := Lib.hid ht
          clear hc ht
          go_wp2_with (go_at_call 51; refine (tokenAt_no s k _ hlt hs (symsAt_below HS.out hb HH) Ht.out).mono ?_; rintro e w1 ⟨hb1, k1, p1, tx, rfl⟩; obtain ⟨hc1, hf1⟩ := bcell hb1)
          go_ret3
          exact lexSaid_of (by rw [Hr.out, Hn.out]) (hb.trans ((hb1.mono hb.size).alloc (by have := hb.size; have := hb1.size; omega) _)) (World.ownsRow_nil _ _ _ _)
        | some kn =>
          obtain ⟨kd, n⟩ := kn
          obtain ⟨hn0, hn1, hn2, hn3⟩ := Lx.rest_some f _ k acc kd n hlt (by show s.size - k < f; exact hf) hc ht
          have Hs := Lib.hid hn3
          have Ht := Lib.hid ht
          obtain ⟨g, hg⟩ : ∃ g, g = k + n + Lx.skip false (s.data.toList.drop (k + n)) := ⟨_, rfl⟩
          have hn1' : k + n ≤ s.size := hn1
          have hg' : g ≤ s.size := by
            have h1 := Lx.skip_le (s.data.toList.drop (k + n)) false
            have h2 : s.data.toList.length = s.size := rfl
            rw [List.length_drop] at h1
            omega
          have hn2' : s.size - g < f - 1 := by rw [hg]; exact hn2
          have hkg : k < g := by omega
          have Hg := Lib.hid hg
          have hbs := hb.size
          clear hc ht hn1 hn2 hn3 hg
          go_wp2_with (first | (go_at_call 51; refine (tokenAt_yes s k _ hlt hs (symsAt_below HS.out hb HH) kd n Ht.out).mono ?_; rintro e w1 ⟨hb1, tx, htz, htx, rfl⟩; obtain ⟨hc1, hf1⟩ := bcell hb1; have hbs1 := hb1.size; have Htx := Lib.hid htx; have Htz := Lib.hid htz; have hxs : tx.size ≤ 4000 := (by omega); clear htx htz) | (at_builtin; go_must (refine wpList_append_own _ rfl _ _ 48 rfl w.heap.size 53 i0 (.agg #[.int .i64 0, .string ByteArray.empty, .int .i64 0]) 3 32 Tryz.underlying48 hi hz0 hz1 hz2 rfl (by decide) _ _ _ rfl (((ownsRow_below hown hb1).alloc _).alloc _) ⟨w1.heap.size + 1, 0, none⟩ 1 1 [.int .i64 kd, .string tx, .int .i64 k] rfl rfl (cell_three_new _ _ _ _ _ _ (by simp)) (fun x hx => by simp at hx; rcases hx with rfl | rfl | rfl <;> rfl) (by unfold maxLen; omega) (by omega) (by simp; omega) ?_); intro v' w3 hown3 hgrow3 hnil3; clear hnil3; have hx3 := (cell_grown hgrow3 w1.heap.size 1 (by simp; omega) (ownBlock_lt hown _ hbs1))) | (go_at_call 50; refine (gap_int s _ (k + n) g _ (by rw [Htz.out]; omega) hn1' hs Hg.out).mono ?_; rintro e w' ⟨rfl, rfl⟩))
          refine ⟨⟨acc ++ [⟨kd, (s.data.toList.drop k).take n, k⟩], g, f - 1, hg', by simp; omega, rfl, ?_, ?_, hn2', by rw [Hr.out, Hs.out, Hg.out]⟩, by simp [intOf]; omega⟩
          · rw [List.length_append, toksCells_snoc]
            have h3 := hown3
            rw [Htx.out] at h3
            exact h3
          · have hbw : Below w.heap.size w w1 := hb.trans (hb1.mono hbs)
            have hb2 := (hbw.alloc (by omega) (.cells #[Value.int .i64 kd, Value.string tx, Value.int .i64 k] 53)).alloc (by simp; omega) (.cells #[Value.int .i64 kd, Value.string tx, Value.int .i64 k] 53)
            exact hb2.grown hgrow3 (by simp; omega) (fun j hj => (hown.lt j hj).1)
    · go_wp2
      go_ret3
      exact lexSaid_of (by rw [Hr.out, Lx.rest_end _ _ _ _ (by show s.size ≤ k; omega)]) hb hown

end Go.Proofs.YtbgpboiblggmiaaGreatDoor

/-
  What both lexers answer, and how their tokens are read.
-/
namespace Go.Proofs.YtbgpboiblggmiaaGreatDoor
open Go.RowKit

theorem lexP (s : ByteArray) (w : World) (hS : SymsAt w) (hm : s.size ≤ maxLen) : Calls Tryz.prog 31 #[.string s] w (LexSaid s.data.toList w) := by
  rcases Nat.lt_or_ge 4000 s.size with h | h
  · exact plex_big s w h hm
  · exact plex_small s w h hS
theorem lexR (s : ByteArray) (w : World) (hm : s.size ≤ maxLen) : Calls Tryz.prog 26 #[.string s] w (LexSaid s.data.toList w) := by
  rcases Nat.lt_or_ge 4000 s.size with h | h
  · exact rlex_big s w h hm
  · exact rlex_small s w h

/-- a lexer's answer with its parts under names -/
theorem lexSaid_open {l : List UInt8} {w : World} {ts : List Lx.Tok} {k p : Nat} (h : Lx.lex l = (ts, k, p)) {e : Ending} {w' : World} (hl : LexSaid l w e w') :
    ∃ (a : Option Addr) (cap : Nat), e = .returned (.tuple #[.slice a ts.length cap, .int .i64 (k : Int), .int .i64 (p : Int)]) ∧ Below w.heap.size w w' ∧ w'.ownsRow w.heap.size 53 3 (.slice a ts.length cap) ts.length (toksCells ts) := by
  obtain ⟨hb, v, he, ho⟩ := hl
  rw [h] at he ho
  obtain ⟨a, cap, rfl⟩ := ownsRow_form ho
  exact ⟨a, cap, he, hb, ho⟩

end Go.Proofs.YtbgpboiblggmiaaGreatDoor

