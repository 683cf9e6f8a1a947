/- lex: the library's contracts laid at this program: strings.TrimLeft, stringslite.Clone, strings.HasPrefix, stringslite.Index. -/
import Derived.Test.YtnkokonkbklelaaGreatDoorOnA
import Derived.Shelf.Strings.SlTrimAscii
import Derived.Shelf.Strconv.Clone
import Derived.Shelf.Strings.Search2
import Derived.Shelf.Strings.Prefix
import Derived.Shelf.Pu.ParseUintPublic10
import Derived.Test.YtnkokonkbklelaaGreatDoorLxP
import Derived.Laws.RangeString
import Derived.Laws.RangeAny
import Derived.Shelf.Abstract
namespace Go.Proofs.YtnkokonkbklelaaGreatDoor.Lx
open Go.RowKit Go.Proofs.YtnkokonkbklelaaGreatDoor Go.Shelf


def Tryz.lt_ren : Go.Shelf.Ren := ⟨fun | 161 => 35 | 231 => 60 | 227 => 61 | 233 => 62 | 235 => 63 | 228 => 88 | 197 => 89 | 151 => 90 | 260 => 104 | 152 => 105 | 137 => 122 | 119 => 123 | 224 => 108 | 225 => 107 | 217 => 106 | 266 => 124 | n => n, fun | 9 => 9 | 4 => 4 | 3 => 3 | 5 => 5 | 117 => 138 | 116 => 137 | 0 => 0 | 124 => 141 | 105 => 165 | 21 => 21 | 119 => 186 | 46 => 177 | 139 => 189 | 138 => 188 | n => n, fun | 3 => 2 | 4 => 3 | n => n⟩
theorem Tryz.lt : Lays.n161 Tryz.prog Tryz.lt_ren where
  mixed := by kernel_rfl
  f119 := Tryz.func123.trans (congrArg some (by kernel_rfl))
  f137 := Tryz.func122.trans (congrArg some (by kernel_rfl))
  f151 := Tryz.func90.trans (congrArg some (by kernel_rfl))
  f152 := Tryz.func105.trans (congrArg some (by kernel_rfl))
  f161 := Tryz.func35.trans (congrArg some (by kernel_rfl))
  f197 := Tryz.func89.trans (congrArg some (by kernel_rfl))
  f217 := Tryz.func106.trans (congrArg some (by kernel_rfl))
  f224 := Tryz.func108.trans (congrArg some (by kernel_rfl))
  f225 := Tryz.func107.trans (congrArg some (by kernel_rfl))
  f227 := Tryz.func61.trans (congrArg some (by kernel_rfl))
  f228 := Tryz.func88.trans (congrArg some (by kernel_rfl))
  f231 := Tryz.func60.trans (congrArg some (by kernel_rfl))
  f233 := Tryz.func62.trans (congrArg some (by kernel_rfl))
  f235 := Tryz.func63.trans (congrArg some (by kernel_rfl))
  f260 := Tryz.func104.trans (congrArg some (by kernel_rfl))
  f266 := Tryz.func124.trans (congrArg some (by kernel_rfl))
  t0 := Tryz.underlying0
  a0 := Tryz.isAgg0
  z0 := Tryz.sizeOf0
  v0 := Tryz.zeroValue0
  t3 := Tryz.underlying3
  a3 := Tryz.isAgg3
  z3 := Tryz.sizeOf3
  v3 := Tryz.zeroValue3
  t4 := Tryz.underlying4
  a4 := Tryz.isAgg4
  z4 := Tryz.sizeOf4
  v4 := Tryz.zeroValue4
  t5 := Tryz.underlying5
  a5 := Tryz.isAgg5
  z5 := Tryz.sizeOf5
  v5 := Tryz.zeroValue5
  t9 := Tryz.underlying9
  a9 := Tryz.isAgg9
  z9 := Tryz.sizeOf9
  v9 := Tryz.zeroValue9
  t21 := Tryz.underlying21
  a21 := Tryz.isAgg21
  z21 := Tryz.sizeOf21
  v21 := Tryz.zeroValue21
  t46 := Tryz.underlying177
  a46 := Tryz.isAgg177
  z46 := Tryz.sizeOf177
  v46 := Tryz.zeroValue177
  t105 := Tryz.underlying165
  a105 := Tryz.isAgg165
  z105 := Tryz.sizeOf165
  v105 := Tryz.zeroValue165
  t116 := Tryz.underlying137
  a116 := Tryz.isAgg137
  z116 := Tryz.sizeOf137
  t117 := Tryz.underlying138
  a117 := Tryz.isAgg138
  z117 := Tryz.sizeOf138
  v117 := Tryz.zeroValue138
  t119 := Tryz.underlying186
  a119 := Tryz.isAgg186
  z119 := Tryz.sizeOf186
  t124 := Tryz.underlying141
  a124 := Tryz.isAgg141
  z124 := Tryz.sizeOf141
  v124 := Tryz.zeroValue141
  t138 := Tryz.underlying188
  a138 := Tryz.isAgg188
  z138 := Tryz.sizeOf188
  v138 := Tryz.zeroValue188
  t139 := Tryz.underlying189
  a139 := Tryz.isAgg189
  z139 := Tryz.sizeOf189
  v139 := Tryz.zeroValue189
  g3 := by kernel_rfl
  g4 := by kernel_rfl

def Tryz.lc_ren : Go.Shelf.Ren := ⟨fun | 316 => 95 | n => n, fun | 9 => 9 | 3 => 3 | 4 => 4 | 37 => 76 | 0 => 0 | 127 => 94 | 5 => 5 | n => n, fun | n => n⟩
theorem Tryz.lc : LaysM.n316 Tryz.prog Tryz.lc_ren where
  mixed := by kernel_rfl
  f316 := Tryz.func95.trans (congrArg some (by kernel_rfl))
  t0 := Tryz.underlying0
  a0 := Tryz.isAgg0
  z0 := Tryz.sizeOf0
  v0 := Tryz.zeroValue0
  t3 := Tryz.underlying3
  a3 := Tryz.isAgg3
  z3 := Tryz.sizeOf3
  v3 := Tryz.zeroValue3
  t4 := Tryz.underlying4
  a4 := Tryz.isAgg4
  z4 := Tryz.sizeOf4
  v4 := Tryz.zeroValue4
  t9 := Tryz.underlying9
  a9 := Tryz.isAgg9
  z9 := Tryz.sizeOf9
  v9 := Tryz.zeroValue9
  t37 := Tryz.underlying76
  a37 := Tryz.isAgg76
  z37 := Tryz.sizeOf76
  v37 := Tryz.zeroValue76
  t127 := Tryz.underlying94
  a127 := Tryz.isAgg94
  z127 := Tryz.sizeOf94
  v127 := Tryz.zeroValue94
  t5 := Tryz.underlying5
  a5 := Tryz.isAgg5
  z5 := Tryz.sizeOf5
  v5 := Tryz.zeroValue5
  i0 := by kernel_rfl
  i3 := by kernel_rfl
  i4 := by kernel_rfl
  i5 := by kernel_rfl
  i9 := by kernel_rfl
  i37 := by kernel_rfl
  i127 := by kernel_rfl

def Tryz.lh_ren : Go.Shelf.Ren := ⟨fun | 99 => 36 | 206 => 64 | n => n, fun | 9 => 9 | 4 => 4 | 3 => 3 | n => n, fun | n => n⟩
theorem Tryz.lh : Lays.n99 Tryz.prog Tryz.lh_ren where
  mixed := by kernel_rfl
  f99 := Tryz.func36.trans (congrArg some (by kernel_rfl))
  f206 := Tryz.func64.trans (congrArg some (by kernel_rfl))
  t3 := Tryz.underlying3
  a3 := Tryz.isAgg3
  z3 := Tryz.sizeOf3
  v3 := Tryz.zeroValue3
  t4 := Tryz.underlying4
  a4 := Tryz.isAgg4
  z4 := Tryz.sizeOf4
  v4 := Tryz.zeroValue4
  t9 := Tryz.underlying9
  a9 := Tryz.isAgg9
  z9 := Tryz.sizeOf9
  v9 := Tryz.zeroValue9

def Tryz.li_ren : Go.Shelf.Ren := ⟨fun | 219 => 91 | 217 => 106 | 225 => 107 | 224 => 108 | 267 => 109 | 266 => 124 | 314 => 125 | n => n, fun | 9 => 9 | 3 => 3 | 4 => 4 | 5 => 5 | 46 => 177 | 146 => 191 | 51 => 190 | n => n, fun | 1 => 1 | n => n⟩
theorem Tryz.li : Lays.n219 Tryz.prog Tryz.li_ren where
  mixed := by kernel_rfl
  f217 := Tryz.func106.trans (congrArg some (by kernel_rfl))
  f219 := Tryz.func91.trans (congrArg some (by kernel_rfl))
  f224 := Tryz.func108.trans (congrArg some (by kernel_rfl))
  f225 := Tryz.func107.trans (congrArg some (by kernel_rfl))
  f266 := Tryz.func124.trans (congrArg some (by kernel_rfl))
  f267 := Tryz.func109.trans (congrArg some (by kernel_rfl))
  f314 := Tryz.func125.trans (congrArg some (by kernel_rfl))
  t3 := Tryz.underlying3
  a3 := Tryz.isAgg3
  z3 := Tryz.sizeOf3
  v3 := Tryz.zeroValue3
  t4 := Tryz.underlying4
  a4 := Tryz.isAgg4
  z4 := Tryz.sizeOf4
  v4 := Tryz.zeroValue4
  t5 := Tryz.underlying5
  a5 := Tryz.isAgg5
  z5 := Tryz.sizeOf5
  v5 := Tryz.zeroValue5
  t9 := Tryz.underlying9
  a9 := Tryz.isAgg9
  z9 := Tryz.sizeOf9
  v9 := Tryz.zeroValue9
  t46 := Tryz.underlying177
  a46 := Tryz.isAgg177
  z46 := Tryz.sizeOf177
  v46 := Tryz.zeroValue177
  t51 := Tryz.underlying190
  a51 := Tryz.isAgg190
  z51 := Tryz.sizeOf190
  v51 := Tryz.zeroValue190
  t146 := Tryz.underlying191
  a146 := Tryz.isAgg191
  z146 := Tryz.sizeOf191
  v146 := Tryz.zeroValue191
  g1 := by kernel_rfl

end Go.Proofs.YtnkokonkbklelaaGreatDoor.Lx

/- lex: the library's contract of strconv.ParseUint laid at this program. -/
namespace Go.Proofs.YtnkokonkbklelaaGreatDoor.Lx
open Go.RowKit Go.Proofs.YtnkokonkbklelaaGreatDoor Go.Shelf


def Tryz.lp_ren : Go.Shelf.Ren := ⟨fun | 14 => 68 | 16 => 93 | 17 => 94 | 19 => 110 | 20 => 111 | 21 => 112 | 22 => 113 | 23 => 114 | 24 => 115 | 25 => 95 | 27 => 85 | 26 => 126 | 28 => 101 | 29 => 120 | 30 => 128 | 31 => 129 | 32 => 130 | 33 => 131 | 35 => 133 | 34 => 132 | 36 => 134 | 37 => 135 | 38 => 136 | 39 => 137 | 40 => 138 | n => n, fun | 9 => 9 | 3 => 3 | 22 => 143 | 24 => 27 | 25 => 144 | 4 => 4 | 34 => 178 | 5 => 5 | 36 => 177 | 37 => 76 | 0 => 0 | 39 => 180 | 21 => 21 | 44 => 194 | 47 => 94 | 50 => 203 | 48 => 201 | 2 => 2 | 52 => 196 | 55 => 199 | 59 => 205 | 60 => 190 | 20 => 20 | 61 => 206 | 65 => 210 | 66 => 211 | 67 => 82 | n => n, fun | 0 => 4 | 1 => 5 | 2 => 6 | 3 => 7 | 4 => 8 | n => n⟩
theorem Tryz.lp : LaysPu.n14 Tryz.prog Tryz.lp_ren where
  mixed := by kernel_rfl
  f14 := Tryz.func68.trans (congrArg some (by kernel_rfl))
  f16 := Tryz.func93.trans (congrArg some (by kernel_rfl))
  f17 := Tryz.func94.trans (congrArg some (by kernel_rfl))
  f19 := Tryz.func110.trans (congrArg some (by kernel_rfl))
  f20 := Tryz.func111.trans (congrArg some (by kernel_rfl))
  f21 := Tryz.func112.trans (congrArg some (by kernel_rfl))
  f22 := Tryz.func113.trans (congrArg some (by kernel_rfl))
  f23 := Tryz.func114.trans (congrArg some (by kernel_rfl))
  f24 := Tryz.func115.trans (congrArg some (by kernel_rfl))
  f25 := Tryz.func95.trans (congrArg some (by kernel_rfl))
  f26 := Tryz.func126.trans (congrArg some (by kernel_rfl))
  f27 := Tryz.func85.trans (congrArg some (by kernel_rfl))
  f28 := Tryz.func101.trans (congrArg some (by kernel_rfl))
  f29 := Tryz.func120.trans (congrArg some (by kernel_rfl))
  f30 := Tryz.func128.trans (congrArg some (by kernel_rfl))
  f31 := Tryz.func129.trans (congrArg some (by kernel_rfl))
  f32 := Tryz.func130.trans (congrArg some (by kernel_rfl))
  f33 := Tryz.func131.trans (congrArg some (by kernel_rfl))
  f34 := Tryz.func132.trans (congrArg some (by kernel_rfl))
  f35 := Tryz.func133.trans (congrArg some (by kernel_rfl))
  f36 := Tryz.func134.trans (congrArg some (by kernel_rfl))
  f37 := Tryz.func135.trans (congrArg some (by kernel_rfl))
  f38 := Tryz.func136.trans (congrArg some (by kernel_rfl))
  f39 := Tryz.func137.trans (congrArg some (by kernel_rfl))
  f40 := Tryz.func138.trans (congrArg some (by kernel_rfl))
  t0 := Tryz.underlying0
  a0 := Tryz.isAgg0
  z0 := Tryz.sizeOf0
  v0 := Tryz.zeroValue0
  i0 := by kernel_rfl
  t2 := Tryz.underlying2
  a2 := Tryz.isAgg2
  z2 := Tryz.sizeOf2
  v2 := Tryz.zeroValue2
  i2 := by kernel_rfl
  t3 := Tryz.underlying3
  a3 := Tryz.isAgg3
  z3 := Tryz.sizeOf3
  v3 := Tryz.zeroValue3
  i3 := by kernel_rfl
  t4 := Tryz.underlying4
  a4 := Tryz.isAgg4
  z4 := Tryz.sizeOf4
  v4 := Tryz.zeroValue4
  i4 := by kernel_rfl
  t5 := Tryz.underlying5
  a5 := Tryz.isAgg5
  z5 := Tryz.sizeOf5
  v5 := Tryz.zeroValue5
  i5 := by kernel_rfl
  t9 := Tryz.underlying9
  a9 := Tryz.isAgg9
  z9 := Tryz.sizeOf9
  v9 := Tryz.zeroValue9
  i9 := by kernel_rfl
  t20 := Tryz.underlying20
  a20 := Tryz.isAgg20
  z20 := Tryz.sizeOf20
  v20 := Tryz.zeroValue20
  i20 := by kernel_rfl
  t21 := Tryz.underlying21
  a21 := Tryz.isAgg21
  z21 := Tryz.sizeOf21
  v21 := Tryz.zeroValue21
  i21 := by kernel_rfl
  t22 := Tryz.underlying143
  a22 := Tryz.isAgg143
  z22 := Tryz.sizeOf143
  v22 := Tryz.zeroValue143
  i22 := by kernel_rfl
  t24 := Tryz.underlying27
  a24 := Tryz.isAgg27
  z24 := Tryz.sizeOf27
  v24 := Tryz.zeroValue27
  i24 := by kernel_rfl
  t25 := Tryz.underlying144
  a25 := Tryz.isAgg144
  z25 := Tryz.sizeOf144
  v25 := Tryz.zeroValue144
  i25 := by kernel_rfl
  t34 := Tryz.underlying178
  a34 := Tryz.isAgg178
  z34 := Tryz.sizeOf178
  v34 := Tryz.zeroValue178
  i34 := by kernel_rfl
  c34 := by kernel_rfl
  t36 := Tryz.underlying177
  a36 := Tryz.isAgg177
  z36 := Tryz.sizeOf177
  v36 := Tryz.zeroValue177
  i36 := by kernel_rfl
  t37 := Tryz.underlying76
  a37 := Tryz.isAgg76
  z37 := Tryz.sizeOf76
  v37 := Tryz.zeroValue76
  i37 := by kernel_rfl
  t39 := Tryz.underlying180
  a39 := Tryz.isAgg180
  z39 := Tryz.sizeOf180
  v39 := Tryz.zeroValue180
  i39 := by kernel_rfl
  t44 := Tryz.underlying194
  a44 := Tryz.isAgg194
  z44 := Tryz.sizeOf194
  v44 := Tryz.zeroValue194
  i44 := by kernel_rfl
  t47 := Tryz.underlying94
  a47 := Tryz.isAgg94
  z47 := Tryz.sizeOf94
  v47 := Tryz.zeroValue94
  i47 := by kernel_rfl
  t48 := Tryz.underlying201
  a48 := Tryz.isAgg201
  z48 := Tryz.sizeOf201
  v48 := Tryz.zeroValue201
  i48 := by kernel_rfl
  t50 := Tryz.underlying203
  a50 := Tryz.isAgg203
  z50 := Tryz.sizeOf203
  v50 := Tryz.zeroValue203
  i50 := by kernel_rfl
  t52 := Tryz.underlying196
  a52 := Tryz.isAgg196
  z52 := Tryz.sizeOf196
  v52 := Tryz.zeroValue196
  i52 := by kernel_rfl
  t55 := Tryz.underlying199
  a55 := Tryz.isAgg199
  z55 := Tryz.sizeOf199
  v55 := Tryz.zeroValue199
  i55 := by kernel_rfl
  t59 := Tryz.underlying205
  a59 := Tryz.isAgg205
  z59 := Tryz.sizeOf205
  v59 := Tryz.zeroValue205
  i59 := by kernel_rfl
  t60 := Tryz.underlying190
  a60 := Tryz.isAgg190
  z60 := Tryz.sizeOf190
  v60 := Tryz.zeroValue190
  i60 := by kernel_rfl
  t61 := Tryz.underlying206
  a61 := Tryz.isAgg206
  z61 := Tryz.sizeOf206
  t65 := Tryz.underlying210
  a65 := Tryz.isAgg210
  z65 := Tryz.sizeOf210
  v65 := Tryz.zeroValue210
  i65 := by kernel_rfl
  t66 := Tryz.underlying211
  a66 := Tryz.isAgg211
  z66 := Tryz.sizeOf211
  v66 := Tryz.zeroValue211
  i66 := by kernel_rfl
  t67 := Tryz.underlying82
  a67 := Tryz.isAgg82
  z67 := Tryz.sizeOf82
  v67 := Tryz.zeroValue82
  i67 := by kernel_rfl
  g0 := by kernel_rfl
  m0 := by kernel_rfl
  g1 := by kernel_rfl
  m1 := by kernel_rfl
  g2 := by kernel_rfl
  m2 := by kernel_rfl
  g3 := by kernel_rfl
  m3 := by kernel_rfl
  g4 := by kernel_rfl
  m4 := by kernel_rfl

end Go.Proofs.YtnkokonkbklelaaGreatDoor.Lx

/- lex: contracts: skipped text; letters and digits. -/
namespace Go.Proofs.YtnkokonkbklelaaGreatDoor.Lx
open Go.RowKit Go.Proofs.YtnkokonkbklelaaGreatDoor Go.Shelf

def strLen : Value → Nat
  | .string s => s.size
  | _ => 0

theorem trim_any (l : List UInt8) (w : World) : Calls Tryz.prog 35 #[.string (bs l), .string ⟨#[9, 10, 13, 32]⟩] w fun e w' => e = .returned (.string (bs (l.dropWhile isBl))) ∧ Only Nil w w' :=
  (Any.strings_TrimLeft_laid Tryz.lt (by kernel_rfl) (bs l) ⟨#[9, 10, 13, 32]⟩ w (by decide) (ascii_of_all (by decide))).mono fun _ _ ⟨h1, h2⟩ => ⟨by rw [h1, bs_list, trim_eq]; rfl, Only.ofBelow h2 _⟩
theorem hash_any (l : List UInt8) (w : World) : Calls Tryz.prog 36 #[.string (bs l), .string ⟨#[35]⟩] w fun e w' => e = .returned (.bool (Lib.hasPrefix l [35])) ∧ w = w' :=
  (Any.strings_HasPrefix Tryz.lh (bs l) ⟨#[35]⟩ w).mono fun _ _ ⟨h1, h2⟩ => ⟨by rw [h1, bs_list], h2.symm⟩
theorem index_any (l : List UInt8) (w : World) : Calls Tryz.prog 91 #[.string (bs l), .string ⟨#[10]⟩] w fun e w' => e = .returned (.int .i64 (Lib.indexByte l 10)) ∧ w = w' :=
  (Any.stringslite_Index_one Tryz.li (bs l) 10 w).mono fun _ _ ⟨h1, h2⟩ => ⟨by rw [h1, bs_list], h2.symm⟩
theorem clone_any (l : List UInt8) (w : World) (h : l.length ≤ 16384) : Calls Tryz.prog 95 #[.string (bs l)] w fun e w' => e = .returned (.string (bs l)) ∧ Only Nil w w' :=
  (Any.stringslite_Clone Tryz.lc (bs l) w (by rw [bs_size]; omega)).mono fun _ _ ⟨h1, h2⟩ => ⟨h1, Only.ofBelow h2 _⟩
theorem sclone_any (l : List UInt8) (w : World) (h : l.length ≤ 16384) : Calls Tryz.prog 69 #[.string (bs l)] w fun e w' => e = .returned (.string (bs l)) ∧ Only Nil w w' := by
  go_enter Tryz.func69, Tryz.ntmps69
  go_wp2_with (go_at_call 95; refine (clone_any l _ h).mono ?_; rintro e w' ⟨rfl, o⟩)
  go_ret
  exact ⟨rfl, o⟩

theorem isLetter_any (r : Int) (w : World) : Calls Tryz.prog 38 #[.int .i32 r] w fun e w' => e = .returned (.bool (decide (97 ≤ r) && decide (r ≤ 122))) ∧ w = w' := by
  by_cases h1 : 97 ≤ r <;> by_cases h2 : r ≤ 122 <;>
  · go_enter Tryz.func38, Tryz.ntmps38
    go_wp2
    go_ret
    exact ⟨by simp [h1, h2], rfl⟩
theorem isDigit_any (r : Int) (w : World) : Calls Tryz.prog 41 #[.int .i32 r] w fun e w' => e = .returned (.bool (decide (48 ≤ r) && decide (r ≤ 57))) ∧ w = w' := by
  by_cases h1 : 48 ≤ r <;> by_cases h2 : r ≤ 57 <;>
  · go_enter Tryz.func41, Tryz.ntmps41
    go_wp2
    go_ret
    exact ⟨by simp [h1, h2], rfl⟩
/-- Does a sign of the text end a name? -/
def ends (r : Int) : Bool := !(decide (97 ≤ r) && decide (r ≤ 122)) && !(decide (48 ≤ r) && decide (r ≤ 57)) && (r != 95)
theorem word1_any (r : Int) (w : World) : Calls Tryz.prog 67 #[.int .i32 r] w fun e w' => e = .returned (.bool (ends r)) ∧ w = w' := by
  have fin : ∀ b w', Ending.returned (.bool b) = .returned (.bool (ends r)) ∧ w = w' ↔ b = ends r ∧ w = w' := by intro b w'; simp
  generalize hL : (decide (97 ≤ r) && decide (r ≤ 122)) = bl
  generalize hD : (decide (48 ≤ r) && decide (r ≤ 57)) = bd
  have e : ends r = (!bl && !bd && (r != 95)) := by unfold ends; rw [hL, hD]
  have HL : Hid ((decide (97 ≤ r) && decide (r ≤ 122)) = bl) := Lib.hid hL
  have HD : Hid ((decide (48 ≤ r) && decide (r ≤ 57)) = bd) := Lib.hid hD
  have he := Lib.hid e
  clear hL hD e fin
  cases h5 : (r == 95) with
  | true =>
    obtain rfl : r = 95 := by simpa using h5
    clear h5
    cases bl <;> cases bd <;>
    · go_enter Tryz.func67, Tryz.ntmps67
      go_wp2_with (first
        | (go_at_call 38; refine (isLetter_any 95 _).mono ?_; rintro e w' ⟨rfl, rfl⟩; rw [HL.out])
        | (go_at_call 41; refine (isDigit_any 95 _).mono ?_; rintro e w' ⟨rfl, rfl⟩; rw [HD.out]))
      go_ret
      exact ⟨by rw [he.out]; simp, rfl⟩
  | false =>
    have h6 : (r != 95) = true := by simp [bne, h5]
    cases bl <;> cases bd <;>
    · go_enter Tryz.func67, Tryz.ntmps67
      go_wp2_with (first
        | (go_at_call 38; refine (isLetter_any r _).mono ?_; rintro e w' ⟨rfl, rfl⟩; rw [HL.out])
        | (go_at_call 41; refine (isDigit_any r _).mono ?_; rintro e w' ⟨rfl, rfl⟩; rw [HD.out]))
      go_ret
      exact ⟨by rw [he.out, h6]; rfl, rfl⟩
end Go.Proofs.YtnkokonkbklelaaGreatDoor.Lx

/- lex: contracts: strings.Cut at the end of a line; skip; the word at a text's beginning. -/
namespace Go.Proofs.YtnkokonkbklelaaGreatDoor.Lx
open Go.RowKit Go.Proofs.YtnkokonkbklelaaGreatDoor Go.Shelf

theorem bs_extract (l : List UInt8) (a b : Nat) : (bs l).extract a b = bs ((l.take b).drop a) := by
  have : ((bs l).extract a b).data.toList = (l.take b).drop a := by simp [bs, List.drop_take]
  rw [← this, bs_of]
theorem cut_none (l : List UInt8) (w : World) (h : Lib.indexByte l 10 = -1) : Calls Tryz.prog 65 #[.string (bs l), .string ⟨#[10]⟩] w fun e w' => e = .returned (.tuple #[.string (bs l), .string ⟨#[]⟩, .bool false]) ∧ w = w' := by
  go_enter Tryz.func65, Tryz.ntmps65
  go_wp2_with (go_at_call 91; refine (index_any l _).mono ?_; rintro e w' ⟨rfl, rfl⟩; rw [h])
  go_ret3
  exact ⟨rfl, rfl⟩
theorem cut_some (l : List UInt8) (i : Nat) (w : World) (h : Lib.indexByte l 10 = i) (hi : i < l.length) (hl : l.length ≤ 16384) : Calls Tryz.prog 65 #[.string (bs l), .string ⟨#[10]⟩] w fun e w' => e = .returned (.tuple #[.string (bs (l.take i)), .string (bs (l.drop (i + 1))), .bool true]) ∧ Only Nil w w' := by
  have H := Lib.hid h
  clear h
  have hs : (bs l).size = l.length := bs_size l
  go_enter Tryz.func65, Tryz.ntmps65
  go_wp2_with (go_at_call 91; refine (index_any l _).mono ?_; rintro e w' ⟨rfl, rfl⟩; rw [H.out])
  go_quiet (fail)
  go_wp2
  go_ret3
  refine ⟨?_, (Only.refl _ _).drewN _⟩
  have e1 : (l.take i).drop 0 = l.take i := rfl
  simp only [bs_extract, e1]
  rw [List.take_length]
  rfl
/-- strings.Cut at the end of a line: what is ahead of it, and whether there is one. -/
def ahead (l : List UInt8) : ByteArray := if Lib.indexByte l 10 = -1 then bs l else bs (l.take (Lib.indexByte l 10).toNat)
def found (l : List UInt8) : Bool := !(Lib.indexByte l 10 == -1)
theorem cut_any (l : List UInt8) (w : World) (hl : l.length ≤ 16384) : Calls Tryz.prog 37 #[.string (bs l), .string ⟨#[10]⟩] w fun e w' => e = .returned (.tuple #[.string (ahead l), .string (bs (nl l)), .bool (found l)]) ∧ Only Nil w w' := by
  have hge := Lib.indexByte_ge l 10
  by_cases h : Lib.indexByte l 10 = -1
  · have e1 : ahead l = bs l := if_pos h
    have e2 : bs (nl l) = ⟨#[]⟩ := by rw [nl_eq, if_pos h]; rfl
    have e3 : found l = false := by simp [found, h]
    rw [e1, e2, e3]
    clear e1 e2 e3 hge
    have H := Lib.hid h
    clear h
    go_enter Tryz.func37, Tryz.ntmps37
    go_wp2_with (go_at_call 65; refine (cut_none l _ H.out).mono ?_; rintro e w' ⟨rfl, rfl⟩)
    go_ret3
    exact ⟨rfl, Only.refl _ _⟩
  · obtain ⟨i, hi⟩ : ∃ i : Nat, Lib.indexByte l 10 = i := ⟨(Lib.indexByte l 10).toNat, by omega⟩
    have hlt : i < l.length := by
      have := (Lib.indexByte_some hi).1
      exact (List.getElem?_eq_some_iff.1 this).1
    have e1 : ahead l = bs (l.take i) := by rw [ahead, if_neg h, hi]; rfl
    have e2 : bs (nl l) = bs (l.drop (i + 1)) := by rw [nl_eq, if_neg h, hi]; rfl
    have e3 : found l = true := by simp [found, h]
    rw [e1, e2, e3]
    clear e1 e2 e3 hge h
    have H := Lib.hid hi
    clear hi
    go_enter Tryz.func37, Tryz.ntmps37
    go_wp2_with (go_at_call 65; refine (cut_some l i _ H.out hlt hl).mono ?_; rintro e w' ⟨rfl, o⟩)
    go_ret3
    exact ⟨rfl, o⟩

theorem nl_le (l : List UInt8) : (nl l).length ≤ l.length := by
  induction l with
  | nil => simp [nl]
  | cons c r ih => rw [nl_c]; split <;> simp <;> omega
/-- Nothing blank stands first. -/
def Trim (l : List UInt8) : Prop := l.dropWhile isBl = l
theorem trim_trim (l : List UInt8) : Trim (l.dropWhile isBl) := by
  induction l with
  | nil => rfl
  | cons c r ih =>
    rw [List.dropWhile_cons]
    split
    · exact ih
    · rename_i h; simp [Trim, h]
theorem sk_of_trim {l : List UInt8} (h : Trim l) (hp : Lib.hasPrefix l [35] = false) : sk false l = l := by
  cases l with
  | nil => rfl
  | cons c r =>
    have h1 : isBl c = false := by
      cases hb : isBl c with
      | false => rfl
      | true =>
        unfold Trim at h
        rw [List.dropWhile_cons, if_pos hb] at h
        have := congrArg List.length h
        have h2 := (List.dropWhile_suffix (l := r) isBl).length_le
        simp at this; omega
    refine sk_stays h1 ?_
    have e : Lib.hasPrefix (c :: r) [35] = (35 == c) := by simp [Lib.hasPrefix, List.isPrefixOf]
    rw [e] at hp
    have : ¬ (35 : UInt8) = c := by simpa using hp
    simpa using fun hc => this (Eq.symm hc)
theorem hash_of {l : List UInt8} (hp : Lib.hasPrefix l [35] = true) : ∃ r, l = 35 :: r := by
  cases l with
  | nil => simp [Lib.hasPrefix, List.isPrefixOf] at hp
  | cons c r =>
    have e : Lib.hasPrefix (c :: r) [35] = (35 == c) := by simp [Lib.hasPrefix, List.isPrefixOf]
    rw [e] at hp
    have : (35 : UInt8) = c := by simpa using hp
    exact ⟨r, by rw [← this]⟩

set_option maxHeartbeats 1000000 in
theorem skip_any (l : List UInt8) (w : World) (hl : l.length ≤ 16384) : Calls Tryz.prog 22 #[.string (bs l)] w fun e w' => e = .returned (.string (bs (sk false l))) ∧ Only Nil w w' := by
  go_enter Tryz.func22, Tryz.ntmps22
  go_wp2_with (go_at_call 35; refine (trim_any l _).mono ?_; rintro e w1 ⟨rfl, o1⟩)
  go_loopw [0] (fun t wr => ∃ m, t = .string (bs m) ∧ Trim m ∧ m.length ≤ 16384 ∧ sk false m = sk false l ∧ Only Nil w wr) (fun t _ => strLen t)
  case atStart =>
    refine ⟨_, rfl, trim_trim l, ?_, sk_drop l, o1⟩
    have := (List.dropWhile_suffix (l := l) isBl).length_le
    omega
  case round =>
    obtain ⟨m, rfl, hm, hlm, hs, o⟩ := hrel
    have HS := Lib.hid hs
    have HM := Lib.hid hm
    clear hs hm
    cases hp : Lib.hasPrefix m [35] with
    | true =>
      have HP := Lib.hid hp
      clear hp
      go_wp2_with (first
        | (go_at_call 36; refine (hash_any m _).mono ?_; rintro e w' ⟨rfl, rfl⟩; rw [HP.out])
        | (go_at_call 37; refine (cut_any m _ hlm).mono ?_; rintro e w2 ⟨rfl, o2⟩)
        | (go_at_call 35; refine (trim_any (nl m) _).mono ?_; rintro e w3 ⟨rfl, o3⟩))
      obtain ⟨r, hr⟩ := hash_of HP.out
      have hn : nl m = nl r := by rw [hr, nl_c, if_neg (by decide)]
      have h1 := nl_le r
      have h2 := (List.dropWhile_suffix (l := nl m) isBl).length_le
      have h3 : m.length = r.length + 1 := by rw [hr]; rfl
      have h4 : (nl m).length = (nl r).length := by rw [hn]
      go_roundw
      case rel =>
        refine ⟨_, rfl, trim_trim _, by omega, ?_, o.trans (o2.trans o3)⟩
        rw [← HS.out, sk_drop, hn, hr, sk_hash, sk_true]
      case measure =>
        show (bs _).size < (bs m).size
        rw [bs_size, bs_size]; omega
    | false =>
      have HP := Lib.hid hp
      clear hp
      go_wp2_with (go_at_call 36; refine (hash_any m _).mono ?_; rintro e w' ⟨rfl, rfl⟩; rw [HP.out])
      go_ret
      refine ⟨?_, o⟩
      rw [← HS.out, sk_of_trim HM.out HP.out]
      rfl
end Go.Proofs.YtnkokonkbklelaaGreatDoor.Lx

/- lex: contracts: the word at a text's beginning; tokens; first. -/
namespace Go.Proofs.YtnkokonkbklelaaGreatDoor.Lx
open Go.RowKit Go.Proofs.YtnkokonkbklelaaGreatDoor Go.Shelf

/-- How many letters, digits and _ stand first. -/
def wn (l : List UInt8) : Nat := (l.takeWhile isWd).length
theorem wn_le (l : List UInt8) : wn l ≤ l.length := (List.takeWhile_prefix isWd).length_le
theorem wn_in (l : List UInt8) (k : Nat) (h : k < wn l) : ∃ hk : k < l.length, isWd l[k] = true := by
  have hk : k < l.length := Nat.lt_of_lt_of_le h (wn_le l)
  refine ⟨hk, ?_⟩
  have hp : l.takeWhile isWd <+: l := List.takeWhile_prefix isWd
  have e : (l.takeWhile isWd)[k]'h = l[k] := hp.getElem h
  have hm : (l.takeWhile isWd)[k]'h ∈ l.takeWhile isWd := List.getElem_mem _
  rw [← e]
  exact List.all_eq_true.1 (List.all_takeWhile (l := l) (p := isWd)) _ hm
theorem wn_end (l : List UInt8) (h : wn l < l.length) : isWd l[wn l] = false := by
  induction l with
  | nil => simp at h
  | cons c r ih =>
    by_cases hc : isWd c = true
    · have e : wn (c :: r) = wn r + 1 := by simp [wn, hc]
      have h' : wn r < r.length := by simp [e] at h; exact h
      have := ih h'
      simp only [e, List.getElem_cons_succ]
      exact this
    · have e : wn (c :: r) = 0 := by simp [wn, hc]
      simp only [e, List.getElem_cons_zero]
      simpa using hc
theorem ends_low (c : UInt8) : ends (c.toNat : Int) = !isWd c := by
  have e : (((c.toNat : Nat) : Int) != 95) = !(c == 95) := by
    rw [Bool.eq_iff_iff]
    have : c = 95 ↔ c.toNat = 95 := ⟨fun h => by rw [h]; rfl, fun h => UInt8.toNat_inj.1 h⟩
    simp [this]
    omega
  unfold ends isWd isLe isDi
  rw [e]
  have h1 : decide ((97 : Int) ≤ (c.toNat : Int)) = decide (97 ≤ c.toNat) := by simp only [decide_eq_decide]; omega
  have h2 : decide ((c.toNat : Int) ≤ 122) = decide (c.toNat ≤ 122) := by simp only [decide_eq_decide]; omega
  have h3 : decide ((48 : Int) ≤ (c.toNat : Int)) = decide (48 ≤ c.toNat) := by simp only [decide_eq_decide]; omega
  have h4 : decide ((c.toNat : Int) ≤ 57) = decide (c.toNat ≤ 57) := by simp only [decide_eq_decide]; omega
  rw [h1, h2, h3, h4]
  simp
theorem ends_high (r : Int) (h : 128 ≤ r) : ends r = true := by
  have h1 : decide (r ≤ 122) = false := by simp; omega
  have h2 : decide (r ≤ 57) = false := by simp; omega
  have h3 : (r != 95) = true := by simp; omega
  simp [ends, h1, h2, h3]
theorem bs_get (l : List UInt8) (k : Nat) (h : k < (bs l).size) : (bs l)[k]'h = l[k]'(by simpa using h) := by
  exact List.getElem_toArray (by simpa using h)
theorem isWd_low {c : UInt8} (h : isWd c = true) : c.toNat < 128 := by
  simp [isWd, isLe, isDi] at h
  rcases h with (h | h) | h
  · omega
  · omega
  · subst h; decide
/-- Is this sign of a text the end of its word? -/
theorem ends_at (l : List UInt8) (k : Nat) (h : k < l.length) (hk : k ≤ wn l) : ends (Utf8.decode (bs l) k).1 = decide (wn l ≤ k) ∧ (k < wn l → (Utf8.decode (bs l) k).2 = 1) := by
  have hs : k < (bs l).size := by simpa using h
  by_cases hlt : k < wn l
  · obtain ⟨_, hw⟩ := wn_in l k hlt
    have e := decode_ascii (bs l) k hs (by rw [bs_get]; exact isWd_low hw)
    rw [e, bs_get]
    refine ⟨?_, fun _ => rfl⟩
    rw [ends_low, hw]
    simp; omega
  · have hk' : k = wn l := by omega
    refine ⟨?_, fun h => absurd h hlt⟩
    have hw : isWd l[k] = false := by subst hk'; exact wn_end l h
    by_cases ha : ((bs l)[k]'hs).toNat < 128
    · rw [decode_ascii _ _ hs ha, bs_get, ends_low]
      have e2 : (!isWd (l[k]'h)) = decide (wn l ≤ k) := by
        have : isWd (l[k]'h) = false := hw
        rw [this]
        simp; omega
      exact e2
    · rw [ends_high _ (by have := (decode_high (bs l) k hs (by omega)).1; omega)]
      simp; omega
/-- What strings.IndexFunc says. -/
def wi (l : List UInt8) : Int := if wn l < l.length then (wn l : Int) else -1

theorem only_iter {w w' : World} (h : Only Nil w w') (s : ByteArray) (k : Nat) : Only Nil w (w'.iter s k) := h.alloc _

set_option maxHeartbeats 1000000 in
theorem indexFunc_any (l : List UInt8) (w : World) : Calls Tryz.prog 92 #[.string (bs l), .func (.func 67) #[] #[], .bool true] w fun e w' => e = .returned (.int .i64 (wi l)) ∧ Only Nil w w' := by
  have eg := enters_of Tryz.func67 (by kernel_rfl) rfl
  have hz : (bs l).size = l.length := bs_size l
  go_enter Tryz.func92, Tryz.ntmps92
  go_wp2
  go_loopw [] (fun wr => ∃ k : Nat, k ≤ wn l ∧ wr = w.iter (bs l) k) (fun wr => l.length - wr.iterPos w.heap.size)
  case atStart => exact ⟨0, Nat.zero_le _, rfl⟩
  case round =>
    obtain ⟨k, hk, rfl⟩ := hrel
    by_cases hp : k < l.length
    · have hp' : k < (bs l).size := by rw [hz]; exact hp
      obtain ⟨he, h1⟩ := ends_at l k hp hk
      have hnx : ∀ ty, (Instr.next (.pointer (some ⟨w.heap.size, 0, none⟩)) true ty).run Tryz.prog (w.iter (bs l) k) = _ := fun ty => run_next_any w (bs l) k ty hp'
      generalize (Utf8.decode (bs l) k).1 = r at he hnx
      generalize (Utf8.decode (bs l) k).2 = d at h1 hnx
      have HE := Lib.hid he
      have H1 := Lib.hid h1
      clear he h1 hz
      by_cases hlt : k < wn l
      · have hd : decide (wn l ≤ k) = false := by simp; omega
        have HD := Lib.hid hd
        clear hd
        go_wp2_with (go_at_call 67; refine (word1_any r _).mono ?_; rintro e w' ⟨rfl, rfl⟩; rw [HE.out, HD.out])
        go_roundw
        case rel =>
          obtain rfl := H1.out hlt
          exact ⟨k + 1, hlt, rfl⟩
        case measure =>
          obtain rfl := H1.out hlt
          simp; omega
      · have hd : decide (wn l ≤ k) = true := by simp; omega
        have HD := Lib.hid hd
        clear hd
        go_wp2_with (go_at_call 67; refine (word1_any r _).mono ?_; rintro e w' ⟨rfl, rfl⟩; rw [HE.out, HD.out])
        go_ret
        refine ⟨?_, only_iter (Only.refl _ _) _ _⟩
        have : wn l = k := by omega
        unfold wi
        rw [this, if_pos hp]
        rfl
    · have hp' : ¬ k < (bs l).size := by rw [hz]; exact hp
      have hnx : ∀ ty, (Instr.next (.pointer (some ⟨w.heap.size, 0, none⟩)) true ty).run Tryz.prog (w.iter (bs l) k) = _ := fun ty => run_next_end w (bs l) k ty hp'
      clear hz
      go_wp2
      go_ret
      refine ⟨?_, only_iter (Only.refl _ _) _ _⟩
      have := wn_le l
      unfold wi
      rw [if_neg (by omega)]
      rfl
end Go.Proofs.YtnkokonkbklelaaGreatDoor.Lx
