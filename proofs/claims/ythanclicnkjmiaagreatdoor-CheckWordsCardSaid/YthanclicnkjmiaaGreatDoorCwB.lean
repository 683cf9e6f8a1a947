/- check: strings.Join laid; texts joined. -/
import Derived.Test.YthanclicnkjmiaaGreatDoorCwA
import Derived.Shelf.Strings.OnBuilder
set_option linter.unusedVariables false
namespace Go.Proofs.YthanclicnkjmiaaGreatDoor.Ch
open Go.RowKit Go.Proofs Go.Proofs.YthanclicnkjmiaaGreatDoor Go.Shelf Lx Ps

def Tryz.jn_ren : Go.Shelf.Ren := ⟨fun | 156 => 43 | 165 => 73 | 166 => 74 | 169 => 47 | 240 => 110 | 241 => 111 | 276 => 153 | 277 => 154 | n => n, fun | 31 => 103 | 9 => 9 | 3 => 3 | 4 => 4 | 0 => 0 | 20 => 20 | 72 => 112 | 76 => 136 | 70 => 110 | 37 => 102 | 75 => 27 | 127 => 149 | 164 => 162 | 5 => 5 | 80 => 49 | n => n, fun | n => n⟩
theorem Tryz.jn : Lays.n156 Tryz.prog Tryz.jn_ren where
  mixed := by kernel_rfl
  f156 := Tryz.func43.trans (congrArg some (by kernel_rfl))
  f165 := Tryz.func73.trans (congrArg some (by kernel_rfl))
  f166 := Tryz.func74.trans (congrArg some (by kernel_rfl))
  f169 := Tryz.func47.trans (congrArg some (by kernel_rfl))
  f240 := Tryz.func110.trans (congrArg some (by kernel_rfl))
  f241 := Tryz.func111.trans (congrArg some (by kernel_rfl))
  f276 := Tryz.func153.trans (congrArg some (by kernel_rfl))
  f277 := Tryz.func154.trans (congrArg some (by kernel_rfl))
  t0 := Tryz.underlying0
  a0 := Tryz.isAgg0
  z0 := Tryz.sizeOf0
  v0 := Tryz.zeroValue0
  t3 := Tryz.underlying3
  a3 := Tryz.isAgg3
  z3 := Tryz.sizeOf3
  v3 := Tryz.zeroValue3
  t4 := Tryz.underlying4
  a4 := Tryz.isAgg4
  z4 := Tryz.sizeOf4
  v4 := Tryz.zeroValue4
  t9 := Tryz.underlying9
  a9 := Tryz.isAgg9
  z9 := Tryz.sizeOf9
  v9 := Tryz.zeroValue9
  t20 := Tryz.underlying20
  a20 := Tryz.isAgg20
  z20 := Tryz.sizeOf20
  v20 := Tryz.zeroValue20
  t31 := Tryz.underlying103
  a31 := Tryz.isAgg103
  z31 := Tryz.sizeOf103
  v31 := Tryz.zeroValue103
  t37 := Tryz.underlying102
  a37 := Tryz.isAgg102
  z37 := Tryz.sizeOf102
  v37 := Tryz.zeroValue102
  t70 := Tryz.underlying110
  a70 := Tryz.isAgg110
  z70 := Tryz.sizeOf110
  v70 := Tryz.zeroValue110
  t72 := Tryz.underlying112
  a72 := Tryz.isAgg112
  z72 := Tryz.sizeOf112
  v72 := Tryz.zeroValue112
  t75 := Tryz.underlying27
  a75 := Tryz.isAgg27
  z75 := Tryz.sizeOf27
  v75 := Tryz.zeroValue27
  t76 := Tryz.underlying136
  a76 := Tryz.isAgg136
  z76 := Tryz.sizeOf136
  v76 := Tryz.zeroValue136
  t127 := Tryz.underlying149
  a127 := Tryz.isAgg149
  z127 := Tryz.sizeOf149
  v127 := Tryz.zeroValue149
  t164 := Tryz.underlying162
  a164 := Tryz.isAgg162
  z164 := Tryz.sizeOf162
  v164 := Tryz.zeroValue162

theorem Tryz.jnx : Builder.Extra Tryz.prog Tryz.jn_ren where
  sizeBuilder := by kernel_rfl
  liesBuilder := by kernel_rfl
  t5 := Tryz.underlying5
  a5 := Tryz.isAgg5
  z5 := Tryz.sizeOf5
  v5 := Tryz.zeroValue5
  infoByte := by kernel_rfl
  cellsByte := by kernel_rfl
  sizeByte := by kernel_rfl
  neB5 := by decide
theorem map_bs (L : List Wd) : (L.map bs).map (fun x => x.data.toList) = L := by
  rw [List.map_map]
  conv => rhs; rw [← List.map_id L]
  exact List.map_congr_left fun l _ => by simp [bs]
/-- strings.Join of a row of texts that lies in a block. -/
theorem join_any {w : World} (L : List Wd) (sep : Wd) (b c : Nat) (hL : ∀ j l, L[j]? = some l → w.cell? ⟨b, j, none⟩ = some (.string (bs l))) (hb : b < w.heap.size) (hN : L.length ≤ 140737488355328) (hc : L.length ≤ c)
    (hlen : (Lib.join L sep).length ≤ 140737488355328) :
    Calls Tryz.prog 43 #[.slice (some ⟨b, 0, none⟩) L.length c, .string (bs sep)] w fun e w' => e = .returned (.string (bs (Lib.join L sep))) ∧ Only Nil w w' := by
  have hs : (bs sep).data.toList = sep := by simp [bs]
  have h := Any.strings_Join Tryz.jn Tryz.jnx b 0 c (L.map bs) (bs sep) w (fun j x hj => by
    rw [List.getElem?_map] at hj
    cases hl : L[j]? with
    | none => rw [hl] at hj; cases hj
    | some l => rw [hl] at hj; obtain rfl := Option.some.inj hj; rw [Nat.zero_add]; exact hL j l hl) hb (by simpa using hN) (by simpa using hc) (by rw [map_bs, hs]; exact hlen)
  rw [map_bs, hs, List.length_map] at h
  exact h.mono fun e w' ⟨h1, h2⟩ => ⟨h1, Only.ofBelow h2 _⟩
end Go.Proofs.YthanclicnkjmiaaGreatDoor.Ch
