/- lex: the library's contracts laid at this program: strings.TrimLeft, stringslite.Clone, strings.HasPrefix, stringslite.Index. -/
import Derived.Test.YthhnfliklegefaaDoorOnA
import Derived.Shelf.Strings.SlTrimAscii
import Derived.Shelf.Strconv.Clone
import Derived.Shelf.Strings.Search2
import Derived.Shelf.Strings.Prefix
import Derived.Shelf.Pu.ParseUintPublic10
import Derived.Test.YthhnfliklegefaaDoorLxP
import Derived.Laws.RangeString
import Derived.Laws.RangeAny
import Derived.Shelf.Abstract
namespace Go.Proofs.YthhnfliklegefaaDoor.Lx
open Go.RowKit Go.Proofs.YthhnfliklegefaaDoor Go.Shelf


def Tryd.lt_ren : Go.Shelf.Ren := ⟨fun | 161 => 22 | 231 => 35 | 227 => 36 | 233 => 37 | 235 => 38 | 228 => 47 | 197 => 48 | 151 => 49 | 260 => 55 | 152 => 56 | 137 => 67 | 119 => 68 | 224 => 59 | 225 => 58 | 217 => 57 | 266 => 69 | n => n, fun | 9 => 9 | 4 => 4 | 3 => 3 | 5 => 5 | 117 => 83 | 116 => 82 | 0 => 0 | 124 => 86 | 105 => 97 | 21 => 21 | 119 => 113 | 46 => 106 | 139 => 116 | 138 => 115 | n => n, fun | 3 => 2 | 4 => 3 | n => n⟩
theorem Tryd.lt : Lays.n161 Tryd.prog Tryd.lt_ren where
  mixed := by kernel_rfl
  f119 := Tryd.func68.trans (congrArg some (by kernel_rfl))
  f137 := Tryd.func67.trans (congrArg some (by kernel_rfl))
  f151 := Tryd.func49.trans (congrArg some (by kernel_rfl))
  f152 := Tryd.func56.trans (congrArg some (by kernel_rfl))
  f161 := Tryd.func22.trans (congrArg some (by kernel_rfl))
  f197 := Tryd.func48.trans (congrArg some (by kernel_rfl))
  f217 := Tryd.func57.trans (congrArg some (by kernel_rfl))
  f224 := Tryd.func59.trans (congrArg some (by kernel_rfl))
  f225 := Tryd.func58.trans (congrArg some (by kernel_rfl))
  f227 := Tryd.func36.trans (congrArg some (by kernel_rfl))
  f228 := Tryd.func47.trans (congrArg some (by kernel_rfl))
  f231 := Tryd.func35.trans (congrArg some (by kernel_rfl))
  f233 := Tryd.func37.trans (congrArg some (by kernel_rfl))
  f235 := Tryd.func38.trans (congrArg some (by kernel_rfl))
  f260 := Tryd.func55.trans (congrArg some (by kernel_rfl))
  f266 := Tryd.func69.trans (congrArg some (by kernel_rfl))
  t0 := Tryd.underlying0
  a0 := Tryd.isAgg0
  z0 := Tryd.sizeOf0
  v0 := Tryd.zeroValue0
  t3 := Tryd.underlying3
  a3 := Tryd.isAgg3
  z3 := Tryd.sizeOf3
  v3 := Tryd.zeroValue3
  t4 := Tryd.underlying4
  a4 := Tryd.isAgg4
  z4 := Tryd.sizeOf4
  v4 := Tryd.zeroValue4
  t5 := Tryd.underlying5
  a5 := Tryd.isAgg5
  z5 := Tryd.sizeOf5
  v5 := Tryd.zeroValue5
  t9 := Tryd.underlying9
  a9 := Tryd.isAgg9
  z9 := Tryd.sizeOf9
  v9 := Tryd.zeroValue9
  t21 := Tryd.underlying21
  a21 := Tryd.isAgg21
  z21 := Tryd.sizeOf21
  v21 := Tryd.zeroValue21
  t46 := Tryd.underlying106
  a46 := Tryd.isAgg106
  z46 := Tryd.sizeOf106
  v46 := Tryd.zeroValue106
  t105 := Tryd.underlying97
  a105 := Tryd.isAgg97
  z105 := Tryd.sizeOf97
  v105 := Tryd.zeroValue97
  t116 := Tryd.underlying82
  a116 := Tryd.isAgg82
  z116 := Tryd.sizeOf82
  t117 := Tryd.underlying83
  a117 := Tryd.isAgg83
  z117 := Tryd.sizeOf83
  v117 := Tryd.zeroValue83
  t119 := Tryd.underlying113
  a119 := Tryd.isAgg113
  z119 := Tryd.sizeOf113
  t124 := Tryd.underlying86
  a124 := Tryd.isAgg86
  z124 := Tryd.sizeOf86
  v124 := Tryd.zeroValue86
  t138 := Tryd.underlying115
  a138 := Tryd.isAgg115
  z138 := Tryd.sizeOf115
  v138 := Tryd.zeroValue115
  t139 := Tryd.underlying116
  a139 := Tryd.isAgg116
  z139 := Tryd.sizeOf116
  v139 := Tryd.zeroValue116
  g3 := by kernel_rfl
  g4 := by kernel_rfl

def Tryd.lc_ren : Go.Shelf.Ren := ⟨fun | 316 => 54 | n => n, fun | 9 => 9 | 3 => 3 | 4 => 4 | 37 => 51 | 0 => 0 | 127 => 112 | 5 => 5 | n => n, fun | n => n⟩
theorem Tryd.lc : LaysM.n316 Tryd.prog Tryd.lc_ren where
  mixed := by kernel_rfl
  f316 := Tryd.func54.trans (congrArg some (by kernel_rfl))
  t0 := Tryd.underlying0
  a0 := Tryd.isAgg0
  z0 := Tryd.sizeOf0
  v0 := Tryd.zeroValue0
  t3 := Tryd.underlying3
  a3 := Tryd.isAgg3
  z3 := Tryd.sizeOf3
  v3 := Tryd.zeroValue3
  t4 := Tryd.underlying4
  a4 := Tryd.isAgg4
  z4 := Tryd.sizeOf4
  v4 := Tryd.zeroValue4
  t9 := Tryd.underlying9
  a9 := Tryd.isAgg9
  z9 := Tryd.sizeOf9
  v9 := Tryd.zeroValue9
  t37 := Tryd.underlying51
  a37 := Tryd.isAgg51
  z37 := Tryd.sizeOf51
  v37 := Tryd.zeroValue51
  t127 := Tryd.underlying112
  a127 := Tryd.isAgg112
  z127 := Tryd.sizeOf112
  v127 := Tryd.zeroValue112
  t5 := Tryd.underlying5
  a5 := Tryd.isAgg5
  z5 := Tryd.sizeOf5
  v5 := Tryd.zeroValue5
  i0 := by kernel_rfl
  i3 := by kernel_rfl
  i4 := by kernel_rfl
  i5 := by kernel_rfl
  i9 := by kernel_rfl
  i37 := by kernel_rfl
  i127 := by kernel_rfl

def Tryd.lh_ren : Go.Shelf.Ren := ⟨fun | 99 => 23 | 206 => 39 | n => n, fun | 9 => 9 | 4 => 4 | 3 => 3 | n => n, fun | n => n⟩
theorem Tryd.lh : Lays.n99 Tryd.prog Tryd.lh_ren where
  mixed := by kernel_rfl
  f99 := Tryd.func23.trans (congrArg some (by kernel_rfl))
  f206 := Tryd.func39.trans (congrArg some (by kernel_rfl))
  t3 := Tryd.underlying3
  a3 := Tryd.isAgg3
  z3 := Tryd.sizeOf3
  v3 := Tryd.zeroValue3
  t4 := Tryd.underlying4
  a4 := Tryd.isAgg4
  z4 := Tryd.sizeOf4
  v4 := Tryd.zeroValue4
  t9 := Tryd.underlying9
  a9 := Tryd.isAgg9
  z9 := Tryd.sizeOf9
  v9 := Tryd.zeroValue9

def Tryd.li_ren : Go.Shelf.Ren := ⟨fun | 219 => 50 | 217 => 57 | 225 => 58 | 224 => 59 | 267 => 60 | 266 => 69 | 314 => 70 | n => n, fun | 9 => 9 | 3 => 3 | 4 => 4 | 5 => 5 | 46 => 106 | 146 => 118 | 51 => 117 | n => n, fun | 1 => 1 | n => n⟩
theorem Tryd.li : Lays.n219 Tryd.prog Tryd.li_ren where
  mixed := by kernel_rfl
  f217 := Tryd.func57.trans (congrArg some (by kernel_rfl))
  f219 := Tryd.func50.trans (congrArg some (by kernel_rfl))
  f224 := Tryd.func59.trans (congrArg some (by kernel_rfl))
  f225 := Tryd.func58.trans (congrArg some (by kernel_rfl))
  f266 := Tryd.func69.trans (congrArg some (by kernel_rfl))
  f267 := Tryd.func60.trans (congrArg some (by kernel_rfl))
  f314 := Tryd.func70.trans (congrArg some (by kernel_rfl))
  t3 := Tryd.underlying3
  a3 := Tryd.isAgg3
  z3 := Tryd.sizeOf3
  v3 := Tryd.zeroValue3
  t4 := Tryd.underlying4
  a4 := Tryd.isAgg4
  z4 := Tryd.sizeOf4
  v4 := Tryd.zeroValue4
  t5 := Tryd.underlying5
  a5 := Tryd.isAgg5
  z5 := Tryd.sizeOf5
  v5 := Tryd.zeroValue5
  t9 := Tryd.underlying9
  a9 := Tryd.isAgg9
  z9 := Tryd.sizeOf9
  v9 := Tryd.zeroValue9
  t46 := Tryd.underlying106
  a46 := Tryd.isAgg106
  z46 := Tryd.sizeOf106
  v46 := Tryd.zeroValue106
  t51 := Tryd.underlying117
  a51 := Tryd.isAgg117
  z51 := Tryd.sizeOf117
  v51 := Tryd.zeroValue117
  t146 := Tryd.underlying118
  a146 := Tryd.isAgg118
  z146 := Tryd.sizeOf118
  v146 := Tryd.zeroValue118
  g1 := by kernel_rfl

end Go.Proofs.YthhnfliklegefaaDoor.Lx

/- lex: the library's contract of strconv.ParseUint laid at this program. -/
namespace Go.Proofs.YthhnfliklegefaaDoor.Lx
open Go.RowKit Go.Proofs.YthhnfliklegefaaDoor Go.Shelf


def Tryd.lp_ren : Go.Shelf.Ren := ⟨fun | 14 => 43 | 16 => 52 | 17 => 53 | 19 => 61 | 20 => 62 | 21 => 63 | 22 => 64 | 23 => 65 | 24 => 66 | 25 => 54 | 27 => 72 | 26 => 71 | 28 => 73 | 29 => 74 | 30 => 75 | 31 => 76 | 32 => 77 | 33 => 78 | 35 => 80 | 34 => 79 | 36 => 81 | 37 => 82 | 38 => 83 | 39 => 84 | 40 => 85 | n => n, fun | 9 => 9 | 3 => 3 | 22 => 88 | 24 => 31 | 25 => 89 | 4 => 4 | 34 => 107 | 5 => 5 | 36 => 106 | 37 => 51 | 0 => 0 | 39 => 109 | 21 => 21 | 44 => 121 | 47 => 112 | 50 => 125 | 48 => 123 | 2 => 2 | 52 => 127 | 55 => 130 | 59 => 133 | 60 => 117 | 20 => 20 | 61 => 134 | 65 => 138 | 66 => 139 | 67 => 140 | n => n, fun | 0 => 4 | 1 => 5 | 2 => 6 | 3 => 7 | 4 => 8 | n => n⟩
theorem Tryd.lp : LaysPu.n14 Tryd.prog Tryd.lp_ren where
  mixed := by kernel_rfl
  f14 := Tryd.func43.trans (congrArg some (by kernel_rfl))
  f16 := Tryd.func52.trans (congrArg some (by kernel_rfl))
  f17 := Tryd.func53.trans (congrArg some (by kernel_rfl))
  f19 := Tryd.func61.trans (congrArg some (by kernel_rfl))
  f20 := Tryd.func62.trans (congrArg some (by kernel_rfl))
  f21 := Tryd.func63.trans (congrArg some (by kernel_rfl))
  f22 := Tryd.func64.trans (congrArg some (by kernel_rfl))
  f23 := Tryd.func65.trans (congrArg some (by kernel_rfl))
  f24 := Tryd.func66.trans (congrArg some (by kernel_rfl))
  f25 := Tryd.func54.trans (congrArg some (by kernel_rfl))
  f26 := Tryd.func71.trans (congrArg some (by kernel_rfl))
  f27 := Tryd.func72.trans (congrArg some (by kernel_rfl))
  f28 := Tryd.func73.trans (congrArg some (by kernel_rfl))
  f29 := Tryd.func74.trans (congrArg some (by kernel_rfl))
  f30 := Tryd.func75.trans (congrArg some (by kernel_rfl))
  f31 := Tryd.func76.trans (congrArg some (by kernel_rfl))
  f32 := Tryd.func77.trans (congrArg some (by kernel_rfl))
  f33 := Tryd.func78.trans (congrArg some (by kernel_rfl))
  f34 := Tryd.func79.trans (congrArg some (by kernel_rfl))
  f35 := Tryd.func80.trans (congrArg some (by kernel_rfl))
  f36 := Tryd.func81.trans (congrArg some (by kernel_rfl))
  f37 := Tryd.func82.trans (congrArg some (by kernel_rfl))
  f38 := Tryd.func83.trans (congrArg some (by kernel_rfl))
  f39 := Tryd.func84.trans (congrArg some (by kernel_rfl))
  f40 := Tryd.func85.trans (congrArg some (by kernel_rfl))
  t0 := Tryd.underlying0
  a0 := Tryd.isAgg0
  z0 := Tryd.sizeOf0
  v0 := Tryd.zeroValue0
  i0 := by kernel_rfl
  t2 := Tryd.underlying2
  a2 := Tryd.isAgg2
  z2 := Tryd.sizeOf2
  v2 := Tryd.zeroValue2
  i2 := by kernel_rfl
  t3 := Tryd.underlying3
  a3 := Tryd.isAgg3
  z3 := Tryd.sizeOf3
  v3 := Tryd.zeroValue3
  i3 := by kernel_rfl
  t4 := Tryd.underlying4
  a4 := Tryd.isAgg4
  z4 := Tryd.sizeOf4
  v4 := Tryd.zeroValue4
  i4 := by kernel_rfl
  t5 := Tryd.underlying5
  a5 := Tryd.isAgg5
  z5 := Tryd.sizeOf5
  v5 := Tryd.zeroValue5
  i5 := by kernel_rfl
  t9 := Tryd.underlying9
  a9 := Tryd.isAgg9
  z9 := Tryd.sizeOf9
  v9 := Tryd.zeroValue9
  i9 := by kernel_rfl
  t20 := Tryd.underlying20
  a20 := Tryd.isAgg20
  z20 := Tryd.sizeOf20
  v20 := Tryd.zeroValue20
  i20 := by kernel_rfl
  t21 := Tryd.underlying21
  a21 := Tryd.isAgg21
  z21 := Tryd.sizeOf21
  v21 := Tryd.zeroValue21
  i21 := by kernel_rfl
  t22 := Tryd.underlying88
  a22 := Tryd.isAgg88
  z22 := Tryd.sizeOf88
  v22 := Tryd.zeroValue88
  i22 := by kernel_rfl
  t24 := Tryd.underlying31
  a24 := Tryd.isAgg31
  z24 := Tryd.sizeOf31
  v24 := Tryd.zeroValue31
  i24 := by kernel_rfl
  t25 := Tryd.underlying89
  a25 := Tryd.isAgg89
  z25 := Tryd.sizeOf89
  v25 := Tryd.zeroValue89
  i25 := by kernel_rfl
  t34 := Tryd.underlying107
  a34 := Tryd.isAgg107
  z34 := Tryd.sizeOf107
  v34 := Tryd.zeroValue107
  i34 := by kernel_rfl
  c34 := by kernel_rfl
  t36 := Tryd.underlying106
  a36 := Tryd.isAgg106
  z36 := Tryd.sizeOf106
  v36 := Tryd.zeroValue106
  i36 := by kernel_rfl
  t37 := Tryd.underlying51
  a37 := Tryd.isAgg51
  z37 := Tryd.sizeOf51
  v37 := Tryd.zeroValue51
  i37 := by kernel_rfl
  t39 := Tryd.underlying109
  a39 := Tryd.isAgg109
  z39 := Tryd.sizeOf109
  v39 := Tryd.zeroValue109
  i39 := by kernel_rfl
  t44 := Tryd.underlying121
  a44 := Tryd.isAgg121
  z44 := Tryd.sizeOf121
  v44 := Tryd.zeroValue121
  i44 := by kernel_rfl
  t47 := Tryd.underlying112
  a47 := Tryd.isAgg112
  z47 := Tryd.sizeOf112
  v47 := Tryd.zeroValue112
  i47 := by kernel_rfl
  t48 := Tryd.underlying123
  a48 := Tryd.isAgg123
  z48 := Tryd.sizeOf123
  v48 := Tryd.zeroValue123
  i48 := by kernel_rfl
  t50 := Tryd.underlying125
  a50 := Tryd.isAgg125
  z50 := Tryd.sizeOf125
  v50 := Tryd.zeroValue125
  i50 := by kernel_rfl
  t52 := Tryd.underlying127
  a52 := Tryd.isAgg127
  z52 := Tryd.sizeOf127
  v52 := Tryd.zeroValue127
  i52 := by kernel_rfl
  t55 := Tryd.underlying130
  a55 := Tryd.isAgg130
  z55 := Tryd.sizeOf130
  v55 := Tryd.zeroValue130
  i55 := by kernel_rfl
  t59 := Tryd.underlying133
  a59 := Tryd.isAgg133
  z59 := Tryd.sizeOf133
  v59 := Tryd.zeroValue133
  i59 := by kernel_rfl
  t60 := Tryd.underlying117
  a60 := Tryd.isAgg117
  z60 := Tryd.sizeOf117
  v60 := Tryd.zeroValue117
  i60 := by kernel_rfl
  t61 := Tryd.underlying134
  a61 := Tryd.isAgg134
  z61 := Tryd.sizeOf134
  t65 := Tryd.underlying138
  a65 := Tryd.isAgg138
  z65 := Tryd.sizeOf138
  v65 := Tryd.zeroValue138
  i65 := by kernel_rfl
  t66 := Tryd.underlying139
  a66 := Tryd.isAgg139
  z66 := Tryd.sizeOf139
  v66 := Tryd.zeroValue139
  i66 := by kernel_rfl
  t67 := Tryd.underlying140
  a67 := Tryd.isAgg140
  z67 := Tryd.sizeOf140
  v67 := Tryd.zeroValue140
  i67 := by kernel_rfl
  g0 := by kernel_rfl
  m0 := by kernel_rfl
  g1 := by kernel_rfl
  m1 := by kernel_rfl
  g2 := by kernel_rfl
  m2 := by kernel_rfl
  g3 := by kernel_rfl
  m3 := by kernel_rfl
  g4 := by kernel_rfl
  m4 := by kernel_rfl

end Go.Proofs.YthhnfliklegefaaDoor.Lx

/- lex: contracts: skipped text; letters and digits. -/
namespace Go.Proofs.YthhnfliklegefaaDoor.Lx
open Go.RowKit Go.Proofs.YthhnfliklegefaaDoor Go.Shelf

def strLen : Value → Nat
  | .string s => s.size
  | _ => 0

theorem trim_any (l : List UInt8) (w : World) : Calls Tryd.prog 22 #[.string (bs l), .string ⟨#[9, 10, 13, 32]⟩] w fun e w' => e = .returned (.string (bs (l.dropWhile isBl))) ∧ Only Nil w w' :=
  (Any.strings_TrimLeft_laid Tryd.lt (by kernel_rfl) (bs l) ⟨#[9, 10, 13, 32]⟩ w (by decide) (ascii_of_all (by decide))).mono fun _ _ ⟨h1, h2⟩ => ⟨by rw [h1, bs_list, trim_eq]; rfl, Only.ofBelow h2 _⟩
theorem hash_any (l : List UInt8) (w : World) : Calls Tryd.prog 23 #[.string (bs l), .string ⟨#[35]⟩] w fun e w' => e = .returned (.bool (Lib.hasPrefix l [35])) ∧ w = w' :=
  (Any.strings_HasPrefix Tryd.lh (bs l) ⟨#[35]⟩ w).mono fun _ _ ⟨h1, h2⟩ => ⟨by rw [h1, bs_list], h2.symm⟩
theorem index_any (l : List UInt8) (w : World) : Calls Tryd.prog 50 #[.string (bs l), .string ⟨#[10]⟩] w fun e w' => e = .returned (.int .i64 (Lib.indexByte l 10)) ∧ w = w' :=
  (Any.stringslite_Index_one Tryd.li (bs l) 10 w).mono fun _ _ ⟨h1, h2⟩ => ⟨by rw [h1, bs_list], h2.symm⟩
theorem clone_any (l : List UInt8) (w : World) (h : l.length ≤ 16384) : Calls Tryd.prog 54 #[.string (bs l)] w fun e w' => e = .returned (.string (bs l)) ∧ Only Nil w w' :=
  (Any.stringslite_Clone Tryd.lc (bs l) w (by rw [bs_size]; omega)).mono fun _ _ ⟨h1, h2⟩ => ⟨h1, Only.ofBelow h2 _⟩
theorem sclone_any (l : List UInt8) (w : World) (h : l.length ≤ 16384) : Calls Tryd.prog 44 #[.string (bs l)] w fun e w' => e = .returned (.string (bs l)) ∧ Only Nil w w' := by
  go_enter Tryd.func44, Tryd.ntmps44
  go_wp2_with (go_at_call 54; refine (clone_any l _ h).mono ?_; rintro e w' ⟨rfl, o⟩)
  go_ret
  exact ⟨rfl, o⟩

theorem isLetter_any (r : Int) (w : World) : Calls Tryd.prog 25 #[.int .i32 r] w fun e w' => e = .returned (.bool (decide (97 ≤ r) && decide (r ≤ 122))) ∧ w = w' := by
  by_cases h1 : 97 ≤ r <;> by_cases h2 : r ≤ 122 <;>
  · go_enter Tryd.func25, Tryd.ntmps25
    go_wp2
    go_ret
    exact ⟨by simp [h1, h2], rfl⟩
theorem isDigit_any (r : Int) (w : World) : Calls Tryd.prog 28 #[.int .i32 r] w fun e w' => e = .returned (.bool (decide (48 ≤ r) && decide (r ≤ 57))) ∧ w = w' := by
  by_cases h1 : 48 ≤ r <;> by_cases h2 : r ≤ 57 <;>
  · go_enter Tryd.func28, Tryd.ntmps28
    go_wp2
    go_ret
    exact ⟨by simp [h1, h2], rfl⟩
/-- Does a sign of the text end a name? -/
def ends (r : Int) : Bool := !(decide (97 ≤ r) && decide (r ≤ 122)) && !(decide (48 ≤ r) && decide (r ≤ 57)) && (r != 95)
theorem word1_any (r : Int) (w : World) : Calls Tryd.prog 42 #[.int .i32 r] w fun e w' => e = .returned (.bool (ends r)) ∧ w = w' := by
  have fin : ∀ b w', Ending.returned (.bool b) = .returned (.bool (ends r)) ∧ w = w' ↔ b = ends r ∧ w = w' := by intro b w'; simp
  generalize hL : (decide (97 ≤ r) && decide (r ≤ 122)) = bl
  generalize hD : (decide (48 ≤ r) && decide (r ≤ 57)) = bd
  have e : ends r = (!bl && !bd && (r != 95)) := by unfold ends; rw [hL, hD]
  have HL : Hid ((decide (97 ≤ r) && decide (r ≤ 122)) = bl) := Lib.hid hL
  have HD : Hid ((decide (48 ≤ r) && decide (r ≤ 57)) = bd) := Lib.hid hD
  have he := Lib.hid e
  clear hL hD e fin
  cases h5 : (r == 95) with
  | true =>
    obtain rfl : r = 95 := by simpa using h5
    clear h5
    cases bl <;> cases bd <;>
    · go_enter Tryd.func42, Tryd.ntmps42
      go_wp2_with (first
        | (go_at_call 25; refine (isLetter_any 95 _).mono ?_; rintro e w' ⟨rfl, rfl⟩; rw [HL.out])
        | (go_at_call 28; refine (isDigit_any 95 _).mono ?_; rintro e w' ⟨rfl, rfl⟩; rw [HD.out]))
      go_ret
      exact ⟨by rw [he.out]; simp, rfl⟩
  | false =>
    have h6 : (r != 95) = true := by simp [bne, h5]
    cases bl <;> cases bd <;>
    · go_enter Tryd.func42, Tryd.ntmps42
      go_wp2_with (first
        | (go_at_call 25; refine (isLetter_any r _).mono ?_; rintro e w' ⟨rfl, rfl⟩; rw [HL.out])
        | (go_at_call 28; refine (isDigit_any r _).mono ?_; rintro e w' ⟨rfl, rfl⟩; rw [HD.out]))
      go_ret
      exact ⟨by rw [he.out, h6]; rfl, rfl⟩
end Go.Proofs.YthhnfliklegefaaDoor.Lx

/- lex: contracts: strings.Cut at the end of a line; skip; the word at a text's beginning. -/
namespace Go.Proofs.YthhnfliklegefaaDoor.Lx
open Go.RowKit Go.Proofs.YthhnfliklegefaaDoor Go.Shelf

theorem bs_extract (l : List UInt8) (a b : Nat) : (bs l).extract a b = bs ((l.take b).drop a) := by
  have : ((bs l).extract a b).data.toList = (l.take b).drop a := by simp [bs, List.drop_take]
  rw [← this, bs_of]
theorem cut_none (l : List UInt8) (w : World) (h : Lib.indexByte l 10 = -1) : Calls Tryd.prog 40 #[.string (bs l), .string ⟨#[10]⟩] w fun e w' => e = .returned (.tuple #[.string (bs l), .string ⟨#[]⟩, .bool false]) ∧ w = w' := by
  go_enter Tryd.func40, Tryd.ntmps40
  go_wp2_with (go_at_call 50; refine (index_any l _).mono ?_; rintro e w' ⟨rfl, rfl⟩; rw [h])
  go_ret3
  exact ⟨rfl, rfl⟩
theorem cut_some (l : List UInt8) (i : Nat) (w : World) (h : Lib.indexByte l 10 = i) (hi : i < l.length) (hl : l.length ≤ 16384) : Calls Tryd.prog 40 #[.string (bs l), .string ⟨#[10]⟩] w fun e w' => e = .returned (.tuple #[.string (bs (l.take i)), .string (bs (l.drop (i + 1))), .bool true]) ∧ Only Nil w w' := by
  have H := Lib.hid h
  clear h
  have hs : (bs l).size = l.length := bs_size l
  go_enter Tryd.func40, Tryd.ntmps40
  go_wp2_with (go_at_call 50; refine (index_any l _).mono ?_; rintro e w' ⟨rfl, rfl⟩; rw [H.out])
  go_quiet (fail)
  go_wp2
  go_ret3
  refine ⟨?_, (Only.refl _ _).drewN _⟩
  have e1 : (l.take i).drop 0 = l.take i := rfl
  simp only [bs_extract, e1]
  rw [List.take_length]
  rfl
/-- strings.Cut at the end of a line: what is ahead of it, and whether there is one. -/
def ahead (l : List UInt8) : ByteArray := if Lib.indexByte l 10 = -1 then bs l else bs (l.take (Lib.indexByte l 10).toNat)
def found (l : List UInt8) : Bool := !(Lib.indexByte l 10 == -1)
theorem cut_any (l : List UInt8) (w : World) (hl : l.length ≤ 16384) : Calls Tryd.prog 24 #[.string (bs l), .string ⟨#[10]⟩] w fun e w' => e = .returned (.tuple #[.string (ahead l), .string (bs (nl l)), .bool (found l)]) ∧ Only Nil w w' := by
  have hge := Lib.indexByte_ge l 10
  by_cases h : Lib.indexByte l 10 = -1
  · have e1 : ahead l = bs l := if_pos h
    have e2 : bs (nl l) = ⟨#[]⟩ := by rw [nl_eq, if_pos h]; rfl
    have e3 : found l = false := by simp [found, h]
    rw [e1, e2, e3]
    clear e1 e2 e3 hge
    have H := Lib.hid h
    clear h
    go_enter Tryd.func24, Tryd.ntmps24
    go_wp2_with (go_at_call 40; refine (cut_none l _ H.out).mono ?_; rintro e w' ⟨rfl, rfl⟩)
    go_ret3
    exact ⟨rfl, Only.refl _ _⟩
  · obtain ⟨i, hi⟩ : ∃ i : Nat, Lib.indexByte l 10 = i := ⟨(Lib.indexByte l 10).toNat, by omega⟩
    have hlt : i < l.length := by
      have := (Lib.indexByte_some hi).1
      exact (List.getElem?_eq_some_iff.1 this).1
    have e1 : ahead l = bs (l.take i) := by rw [ahead, if_neg h, hi]; rfl
    have e2 : bs (nl l) = bs (l.drop (i + 1)) := by rw [nl_eq, if_neg h, hi]; rfl
    have e3 : found l = true := by simp [found, h]
    rw [e1, e2, e3]
    clear e1 e2 e3 hge h
    have H := Lib.hid hi
    clear hi
    go_enter Tryd.func24, Tryd.ntmps24
    go_wp2_with (go_at_call 40; refine (cut_some l i _ H.out hlt hl).mono ?_; rintro e w' ⟨rfl, o⟩)
    go_ret3
    exact ⟨rfl, o⟩

theorem nl_le (l : List UInt8) : (nl l).length ≤ l.length := by
  induction l with
  | nil => simp [nl]
  | cons c r ih => rw [nl_c]; split <;> simp <;> omega
/-- Nothing blank stands first. -/
def Trim (l : List UInt8) : Prop := l.dropWhile isBl = l
theorem trim_trim (l : List UInt8) : Trim (l.dropWhile isBl) := by
  induction l with
  | nil => rfl
  | cons c r ih =>
    rw [List.dropWhile_cons]
    split
    · exact ih
    · rename_i h; simp [Trim, h]
theorem sk_of_trim {l : List UInt8} (h : Trim l) (hp : Lib.hasPrefix l [35] = false) : sk false l = l := by
  cases l with
  | nil => rfl
  | cons c r =>
    have h1 : isBl c = false := by
      cases hb : isBl c with
      | false => rfl
      | true =>
        unfold Trim at h
        rw [List.dropWhile_cons, if_pos hb] at h
        have := congrArg List.length h
        have h2 := (List.dropWhile_suffix (l := r) isBl).length_le
        simp at this; omega
    refine sk_stays h1 ?_
    have e : Lib.hasPrefix (c :: r) [35] = (35 == c) := by simp [Lib.hasPrefix, List.isPrefixOf]
    rw [e] at hp
    have : ¬ (35 : UInt8) = c := by simpa using hp
    simpa using fun hc => this (Eq.symm hc)
theorem hash_of {l : List UInt8} (hp : Lib.hasPrefix l [35] = true) : ∃ r, l = 35 :: r := by
  cases l with
  | nil => simp [Lib.hasPrefix, List.isPrefixOf] at hp
  | cons c r =>
    have e : Lib.hasPrefix (c :: r) [35] = (35 == c) := by simp [Lib.hasPrefix, List.isPrefixOf]
    rw [e] at hp
    have : (35 : UInt8) = c := by simpa using hp
    exact ⟨r, by rw [← this]⟩

set_option maxHeartbeats 1000000 in
theorem skip_any (l : List UInt8) (w : World) (hl : l.length ≤ 16384) : Calls Tryd.prog 18 #[.string (bs l)] w fun e w' => e = .returned (.string (bs (sk false l))) ∧ Only Nil w w' := by
  go_enter Tryd.func18, Tryd.ntmps18
  go_wp2_with (go_at_call 22; refine (trim_any l _).mono ?_; rintro e w1 ⟨rfl, o1⟩)
  go_loopw [0] (fun t wr => ∃ m, t = .string (bs m) ∧ Trim m ∧ m.length ≤ 16384 ∧ sk false m = sk false l ∧ Only Nil w wr) (fun t _ => strLen t)
  case atStart =>
    refine ⟨_, rfl, trim_trim l, ?_, sk_drop l, o1⟩
    have := (List.dropWhile_suffix (l := l) isBl).length_le
    omega
  case round =>
    obtain ⟨m, rfl, hm, hlm, hs, o⟩ := hrel
    have HS := Lib.hid hs
    have HM := Lib.hid hm
    clear hs hm
    cases hp : Lib.hasPrefix m [35] with
    | true =>
      have HP := Lib.hid hp
      clear hp
      go_wp2_with (first
        | (go_at_call 23; refine (hash_any m _).mono ?_; rintro e w' ⟨rfl, rfl⟩; rw [HP.out])
        | (go_at_call 24; refine (cut_any m _ hlm).mono ?_; rintro e w2 ⟨rfl, o2⟩)
        | (go_at_call 22; refine (trim_any (nl m) _).mono ?_; rintro e w3 ⟨rfl, o3⟩))
      obtain ⟨r, hr⟩ := hash_of HP.out
      have hn : nl m = nl r := by rw [hr, nl_c, if_neg (by decide)]
      have h1 := nl_le r
      have h2 := (List.dropWhile_suffix (l := nl m) isBl).length_le
      have h3 : m.length = r.length + 1 := by rw [hr]; rfl
      have h4 : (nl m).length = (nl r).length := by rw [hn]
      go_roundw
      case rel =>
        refine ⟨_, rfl, trim_trim _, by omega, ?_, o.trans (o2.trans o3)⟩
        rw [← HS.out, sk_drop, hn, hr, sk_hash, sk_true]
      case measure =>
        show (bs _).size < (bs m).size
        rw [bs_size, bs_size]; omega
    | false =>
      have HP := Lib.hid hp
      clear hp
      go_wp2_with (go_at_call 23; refine (hash_any m _).mono ?_; rintro e w' ⟨rfl, rfl⟩; rw [HP.out])
      go_ret
      refine ⟨?_, o⟩
      rw [← HS.out, sk_of_trim HM.out HP.out]
      rfl
end Go.Proofs.YthhnfliklegefaaDoor.Lx

/- lex: contracts: the word at a text's beginning; tokens; first. -/
namespace Go.Proofs.YthhnfliklegefaaDoor.Lx
open Go.RowKit Go.Proofs.YthhnfliklegefaaDoor Go.Shelf

/-- How many letters, digits and _ stand first. -/
def wn (l : List UInt8) : Nat := (l.takeWhile isWd).length
theorem wn_le (l : List UInt8) : wn l ≤ l.length := (List.takeWhile_prefix isWd).length_le
theorem wn_in (l : List UInt8) (k : Nat) (h : k < wn l) : ∃ hk : k < l.length, isWd l[k] = true := by
  have hk : k < l.length := Nat.lt_of_lt_of_le h (wn_le l)
  refine ⟨hk, ?_⟩
  have hp : l.takeWhile isWd <+: l := List.takeWhile_prefix isWd
  have e : (l.takeWhile isWd)[k]'h = l[k] := hp.getElem h
  have hm : (l.takeWhile isWd)[k]'h ∈ l.takeWhile isWd := List.getElem_mem _
  rw [← e]
  exact List.all_eq_true.1 (List.all_takeWhile (l := l) (p := isWd)) _ hm
theorem wn_end (l : List UInt8) (h : wn l < l.length) : isWd l[wn l] = false := by
  induction l with
  | nil => simp at h
  | cons c r ih =>
    by_cases hc : isWd c = true
    · have e : wn (c :: r) = wn r + 1 := by simp [wn, hc]
      have h' : wn r < r.length := by simp [e] at h; exact h
      have := ih h'
      simp only [e, List.getElem_cons_succ]
      exact this
    · have e : wn (c :: r) = 0 := by simp [wn, hc]
      simp only [e, List.getElem_cons_zero]
      simpa using hc
theorem ends_low (c : UInt8) : ends (c.toNat : Int) = !isWd c := by
  have e : (((c.toNat : Nat) : Int) != 95) = !(c == 95) := by
    rw [Bool.eq_iff_iff]
    have : c = 95 ↔ c.toNat = 95 := ⟨fun h => by rw [h]; rfl, fun h => UInt8.toNat_inj.1 h⟩
    simp [this]
    omega
  unfold ends isWd isLe isDi
  rw [e]
  have h1 : decide ((97 : Int) ≤ (c.toNat : Int)) = decide (97 ≤ c.toNat) := by simp only [decide_eq_decide]; omega
  have h2 : decide ((c.toNat : Int) ≤ 122) = decide (c.toNat ≤ 122) := by simp only [decide_eq_decide]; omega
  have h3 : decide ((48 : Int) ≤ (c.toNat : Int)) = decide (48 ≤ c.toNat) := by simp only [decide_eq_decide]; omega
  have h4 : decide ((c.toNat : Int) ≤ 57) = decide (c.toNat ≤ 57) := by simp only [decide_eq_decide]; omega
  rw [h1, h2, h3, h4]
  simp
theorem ends_high (r : Int) (h : 128 ≤ r) : ends r = true := by
  have h1 : decide (r ≤ 122) = false := by simp; omega
  have h2 : decide (r ≤ 57) = false := by simp; omega
  have h3 : (r != 95) = true := by simp; omega
  simp [ends, h1, h2, h3]
theorem bs_get (l : List UInt8) (k : Nat) (h : k < (bs l).size) : (bs l)[k]'h = l[k]'(by simpa using h) := by
  exact List.getElem_toArray (by simpa using h)
theorem isWd_low {c : UInt8} (h : isWd c = true) : c.toNat < 128 := by
  simp [isWd, isLe, isDi] at h
  rcases h with (h | h) | h
  · omega
  · omega
  · subst h; decide
/-- Is this sign of a text the end of its word? -/
theorem ends_at (l : List UInt8) (k : Nat) (h : k < l.length) (hk : k ≤ wn l) : ends (Utf8.decode (bs l) k).1 = decide (wn l ≤ k) ∧ (k < wn l → (Utf8.decode (bs l) k).2 = 1) := by
  have hs : k < (bs l).size := by simpa using h
  by_cases hlt : k < wn l
  · obtain ⟨_, hw⟩ := wn_in l k hlt
    have e := decode_ascii (bs l) k hs (by rw [bs_get]; exact isWd_low hw)
    rw [e, bs_get]
    refine ⟨?_, fun _ => rfl⟩
    rw [ends_low, hw]
    simp; omega
  · have hk' : k = wn l := by omega
    refine ⟨?_, fun h => absurd h hlt⟩
    have hw : isWd l[k] = false := by subst hk'; exact wn_end l h
    by_cases ha : ((bs l)[k]'hs).toNat < 128
    · rw [decode_ascii _ _ hs ha, bs_get, ends_low]
      have e2 : (!isWd (l[k]'h)) = decide (wn l ≤ k) := by
        have : isWd (l[k]'h) = false := hw
        rw [this]
        simp; omega
      exact e2
    · rw [ends_high _ (by have := (decode_high (bs l) k hs (by omega)).1; omega)]
      simp; omega
/-- What strings.IndexFunc says. -/
def wi (l : List UInt8) : Int := if wn l < l.length then (wn l : Int) else -1

theorem only_iter {w w' : World} (h : Only Nil w w') (s : ByteArray) (k : Nat) : Only Nil w (w'.iter s k) := h.alloc _

set_option maxHeartbeats 1000000 in
theorem indexFunc_any (l : List UInt8) (w : World) : Calls Tryd.prog 51 #[.string (bs l), .func (.func 42) #[] #[], .bool true] w fun e w' => e = .returned (.int .i64 (wi l)) ∧ Only Nil w w' := by
  have eg := enters_of Tryd.func42 (by kernel_rfl) rfl
  have hz : (bs l).size = l.length := bs_size l
  go_enter Tryd.func51, Tryd.ntmps51
  go_wp2
  go_loopw [] (fun wr => ∃ k : Nat, k ≤ wn l ∧ wr = w.iter (bs l) k) (fun wr => l.length - wr.iterPos w.heap.size)
  case atStart => exact ⟨0, Nat.zero_le _, rfl⟩
  case round =>
    obtain ⟨k, hk, rfl⟩ := hrel
    by_cases hp : k < l.length
    · have hp' : k < (bs l).size := by rw [hz]; exact hp
      obtain ⟨he, h1⟩ := ends_at l k hp hk
      have hnx : ∀ ty, (Instr.next (.pointer (some ⟨w.heap.size, 0, none⟩)) true ty).run Tryd.prog (w.iter (bs l) k) = _ := fun ty => run_next_any w (bs l) k ty hp'
      generalize (Utf8.decode (bs l) k).1 = r at he hnx
      generalize (Utf8.decode (bs l) k).2 = d at h1 hnx
      have HE := Lib.hid he
      have H1 := Lib.hid h1
      clear he h1 hz
      by_cases hlt : k < wn l
      · have hd : decide (wn l ≤ k) = false := by simp; omega
        have HD := Lib.hid hd
        clear hd
        go_wp2_with (go_at_call 42; refine (word1_any r _).mono ?_; rintro e w' ⟨rfl, rfl⟩; rw [HE.out, HD.out])
        go_roundw
        case rel =>
          obtain rfl := H1.out hlt
          exact ⟨k + 1, hlt, rfl⟩
        case measure =>
          obtain rfl := H1.out hlt
          simp; omega
      · have hd : decide (wn l ≤ k) = true := by simp; omega
        have HD := Lib.hid hd
        clear hd
        go_wp2_with (go_at_call 42; refine (word1_any r _).mono ?_; rintro e w' ⟨rfl, rfl⟩; rw [HE.out, HD.out])
        go_ret
        refine ⟨?_, only_iter (Only.refl _ _) _ _⟩
        have : wn l = k := by omega
        unfold wi
        rw [this, if_pos hp]
        rfl
    · have hp' : ¬ k < (bs l).size := by rw [hz]; exact hp
      have hnx : ∀ ty, (Instr.next (.pointer (some ⟨w.heap.size, 0, none⟩)) true ty).run Tryd.prog (w.iter (bs l) k) = _ := fun ty => run_next_end w (bs l) k ty hp'
      clear hz
      go_wp2
      go_ret
      refine ⟨?_, only_iter (Only.refl _ _) _ _⟩
      have := wn_le l
      unfold wi
      rw [if_neg (by omega)]
      rfl
end Go.Proofs.YthhnfliklegefaaDoor.Lx
