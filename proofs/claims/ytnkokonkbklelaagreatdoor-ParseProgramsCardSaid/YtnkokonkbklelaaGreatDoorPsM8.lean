/- parse: the library's contract of strconv.Itoa laid at this program. -/
import Derived.Test.YtnkokonkbklelaaGreatDoorOnA
import Derived.Shelf.Strconv.Itoa3
import Derived.Test.YtnkokonkbklelaaGreatDoorPsT
import Derived.Lib.AppendStr
import Derived.Lib.UnsafeStr
import Derived.Lib.Builder
import Derived.Laws.Externs
import Derived.Test.YtnkokonkbklelaaGreatDoorLxM4
namespace Go.Proofs.YtnkokonkbklelaaGreatDoor.Lx
open Go.RowKit Go.Proofs.YtnkokonkbklelaaGreatDoor Go.Shelf


def Tryz.itl_ren : Go.Shelf.Ren := ⟨fun | 171 => 85 | 243 => 101 | 246 => 120 | 283 => 128 | 284 => 129 | 285 => 130 | 286 => 131 | 129 => 133 | 317 => 132 | 318 => 134 | 319 => 135 | 320 => 136 | 337 => 137 | 338 => 138 | n => n, fun | 3 => 3 | 9 => 9 | 2 => 2 | 4 => 4 | 171 => 196 | 0 => 0 | 53 => 143 | 37 => 76 | 5 => 5 | 173 => 199 | 212 => 205 | 51 => 190 | 20 => 20 | 213 => 206 | 46 => 177 | 232 => 210 | 233 => 211 | n => n, fun | 17 => 6 | 18 => 7 | 19 => 8 | n => n⟩
theorem Tryz.itl : LaysM.n171 Tryz.prog Tryz.itl_ren where
  mixed := by kernel_rfl
  f129 := Tryz.func133.trans (congrArg some (by kernel_rfl))
  f171 := Tryz.func85.trans (congrArg some (by kernel_rfl))
  f243 := Tryz.func101.trans (congrArg some (by kernel_rfl))
  f246 := Tryz.func120.trans (congrArg some (by kernel_rfl))
  f283 := Tryz.func128.trans (congrArg some (by kernel_rfl))
  f284 := Tryz.func129.trans (congrArg some (by kernel_rfl))
  f285 := Tryz.func130.trans (congrArg some (by kernel_rfl))
  f286 := Tryz.func131.trans (congrArg some (by kernel_rfl))
  f317 := Tryz.func132.trans (congrArg some (by kernel_rfl))
  f318 := Tryz.func134.trans (congrArg some (by kernel_rfl))
  f319 := Tryz.func135.trans (congrArg some (by kernel_rfl))
  f320 := Tryz.func136.trans (congrArg some (by kernel_rfl))
  f337 := Tryz.func137.trans (congrArg some (by kernel_rfl))
  f338 := Tryz.func138.trans (congrArg some (by kernel_rfl))
  t0 := Tryz.underlying0
  a0 := Tryz.isAgg0
  z0 := Tryz.sizeOf0
  v0 := Tryz.zeroValue0
  t2 := Tryz.underlying2
  a2 := Tryz.isAgg2
  z2 := Tryz.sizeOf2
  v2 := Tryz.zeroValue2
  t3 := Tryz.underlying3
  a3 := Tryz.isAgg3
  z3 := Tryz.sizeOf3
  v3 := Tryz.zeroValue3
  t4 := Tryz.underlying4
  a4 := Tryz.isAgg4
  z4 := Tryz.sizeOf4
  v4 := Tryz.zeroValue4
  t5 := Tryz.underlying5
  a5 := Tryz.isAgg5
  z5 := Tryz.sizeOf5
  v5 := Tryz.zeroValue5
  t9 := Tryz.underlying9
  a9 := Tryz.isAgg9
  z9 := Tryz.sizeOf9
  v9 := Tryz.zeroValue9
  t20 := Tryz.underlying20
  a20 := Tryz.isAgg20
  z20 := Tryz.sizeOf20
  v20 := Tryz.zeroValue20
  t37 := Tryz.underlying76
  a37 := Tryz.isAgg76
  z37 := Tryz.sizeOf76
  v37 := Tryz.zeroValue76
  t46 := Tryz.underlying177
  a46 := Tryz.isAgg177
  z46 := Tryz.sizeOf177
  v46 := Tryz.zeroValue177
  t51 := Tryz.underlying190
  a51 := Tryz.isAgg190
  z51 := Tryz.sizeOf190
  v51 := Tryz.zeroValue190
  t53 := Tryz.underlying143
  a53 := Tryz.isAgg143
  z53 := Tryz.sizeOf143
  v53 := Tryz.zeroValue143
  t171 := Tryz.underlying196
  a171 := Tryz.isAgg196
  z171 := Tryz.sizeOf196
  v171 := Tryz.zeroValue196
  t173 := Tryz.underlying199
  a173 := Tryz.isAgg199
  z173 := Tryz.sizeOf199
  v173 := Tryz.zeroValue199
  t212 := Tryz.underlying205
  a212 := Tryz.isAgg205
  z212 := Tryz.sizeOf205
  v212 := Tryz.zeroValue205
  t213 := Tryz.underlying206
  a213 := Tryz.isAgg206
  z213 := Tryz.sizeOf206
  t232 := Tryz.underlying210
  a232 := Tryz.isAgg210
  z232 := Tryz.sizeOf210
  v232 := Tryz.zeroValue210
  t233 := Tryz.underlying211
  a233 := Tryz.isAgg211
  z233 := Tryz.sizeOf211
  v233 := Tryz.zeroValue211
  g17 := by kernel_rfl
  g18 := by kernel_rfl
  g19 := by kernel_rfl
  i0 := by kernel_rfl
  i2 := by kernel_rfl
  i3 := by kernel_rfl
  i4 := by kernel_rfl
  i5 := by kernel_rfl
  i9 := by kernel_rfl
  i20 := by kernel_rfl
  i37 := by kernel_rfl
  i46 := by kernel_rfl
  i51 := by kernel_rfl
  i53 := by kernel_rfl
  i171 := by kernel_rfl
  i173 := by kernel_rfl
  i212 := by kernel_rfl
  i232 := by kernel_rfl
  i233 := by kernel_rfl
  m17 := by kernel_rfl
  m18 := by kernel_rfl
  m19 := by kernel_rfl

end Go.Proofs.YtnkokonkbklelaaGreatDoor.Lx

/- parse: a writer in memory: its builder; a word more. -/
set_option linter.unusedVariables false
namespace Go.Proofs.YtnkokonkbklelaaGreatDoor.Ps
open Go.RowKit Go.Proofs.YtnkokonkbklelaaGreatDoor Lx

/-! ### The library's numerals -/
def Tab (w : World) : Prop := Lib.TabIs Tryz.prog w "internal/strconv.uint64pow10" .u64 Lib.pow10Tab
theorem Tab.keep {w w' : World} (h : Tab w) (o : Only Nil w w') : Tab w' := by
  have gn : Tryz.prog.globalNamed "internal/strconv.uint64pow10" = some 6 := by kernel_rfl
  unfold Tab Lib.TabIs World.var? at h ⊢
  rw [gn] at h ⊢
  simp only [Option.bind_some] at h ⊢
  have hlt : 6 < w.heap.size := by
    rcases Nat.lt_or_ge 6 w.heap.size with hh | hh
    · exact hh
    · rw [Array.getElem?_eq_none hh] at h; cases h
  rw [o.block _ hlt (fun q => q.elim)]
  exact h
def inW (n : Int) : Prop := -9223372036854775808 ≤ n ∧ n ≤ 9223372036854775807
theorem itoa_any (n : Int) (h : inW n) (w : World) (T : Tab w) : Calls Tryz.prog 85 #[.int .i64 n] w fun e w' => e = .returned (.string (bs (Lib.itoa n))) ∧ Only Nil w w' :=
  (Go.Proofs.Any.strconv_Itoa Tryz.itl n h.1 h.2 w T).mono fun e w' ⟨h1, k, os, h2⟩ => ⟨h1, by
    subst h2
    refine ⟨rfl, rfl, rfl, ?_, fun i hi _ => ?_⟩
    · show w.heap.size ≤ (w.heap ++ os).size
      simp
    · show (w.heap ++ os)[i]? = w.heap[i]?
      rw [Array.getElem?_append_left hi]⟩

/-! ### Words with a blank between each two -/
def jn (t w : Wd) : Wd := if t = [] then w else t ++ 32 :: w
def joinW (ws : List Wd) : Wd := ws.foldl jn []
theorem joinW_append (ws vs : List Wd) : joinW (ws ++ vs) = vs.foldl jn (joinW ws) := by unfold joinW; rw [List.foldl_append]
theorem jn_le (t w : Wd) : t.length ≤ (jn t w).length := by unfold jn; split <;> simp_all
theorem foldl_le (t : Wd) (vs : List Wd) : t.length ≤ (vs.foldl jn t).length := by
  induction vs generalizing t with
  | nil => exact Nat.le_refl _
  | cons v vs ih => exact Nat.le_trans (jn_le t v) (ih (jn t v))
/-- What is against a writer's words: 0 nothing, 1 they can't be written, 5 they are too long. -/
def er (b : Bool) (t : Wd) : Nat := if b then 1 else if 16384 < t.length then 5 else 0
def errV (w : World) (z : Value) : Nat → Prop
  | 0 => z = .nilIface
  | 1 => z = .iface 32 (.int .i64 1)
  | _ => ∃ q, z = .iface 54 (.pointer (some ⟨q, 0, none⟩)) ∧ w.heap[q]? = some (.cells #[.int .i64 5, .int .i64 16384] 70 (0, 0))
/-- A writer at B: whether it has refused, and all its words. -/
def Wr (B : Nat) (w : World) (b : Bool) (ws : List Wd) : Prop :=
  ∃ p v z t, w.heap[B]? = some (.cells #[p, v, z] 80 (0, 0)) ∧ (p = .pointer none ∨ p = .pointer (some ⟨B, 0, none⟩)) ∧ w.ownsRow B 5 1 v t.length (Lib.byteCells t) ∧
    (v = .slice none 0 0 ↔ t = []) ∧ t.length ≤ 16384 ∧ errV w z (er b (joinW ws)) ∧ (er b (joinW ws) = 0 → t = joinW ws)
/-- What a writer turns: its own block, and rows of bytes behind it. -/
def Mine (B : Nat) (w : World) (q : Nat) : Prop := q = B ∨ (B < q ∧ ∃ cs m, w.heap[q]? = some (.cells cs 5 m))
def Wo (B : Nat) (w w' : World) : Prop := Only (Mine B w) w w'
theorem Wo.refl (B : Nat) (w : World) : Wo B w w := Only.refl _ _
theorem Wo.trans {B : Nat} {a b c : World} (h : Wo B a b) (k : Wo B b c) : Wo B a c := by
  refine ⟨k.os.trans h.os, k.tape.trans h.tape, k.output.trans h.output, Nat.le_trans h.size k.size, fun i hi hs => ?_⟩
  have e := h.block i hi hs
  refine (k.block i (Nat.lt_of_lt_of_le hi h.size) (fun s => hs ?_)).trans e
  rcases s with s | ⟨s1, cs, m, s2⟩
  · exact Or.inl s
  · exact Or.inr ⟨s1, cs, m, e ▸ s2⟩
theorem Wo.ofNil {B : Nat} {w w' : World} (o : Only Nil w w') : Wo B w w' := o.nilTo _
theorem Wo.old {B : Nat} {w w' : World} (o : Wo B w w') {D : Nat} (hD : D ≤ B) : ∀ b, b < D → ¬ Mine B w b := fun b hb s => by
  rcases s with s | ⟨s, _⟩ <;> omega
theorem Wr.keep {B : Nat} {w w' : World} {b : Bool} {ws : List Wd} (h : Wr B w b ws) (o : Only Nil w w') : Wr B w' b ws := by
  obtain ⟨p, v, z, t, h1, h2, h3, h4, h5, h6, h7⟩ := h
  refine ⟨p, v, z, t, (o.block B (lt_of_block h1) (fun q => q.elim)).trans h1, h2, own_keep h3 o (fun _ _ q => q.elim), h4, h5, ?_, h7⟩
  revert h6
  generalize er b (joinW ws) = e
  match e with
  | 0 => exact id
  | 1 => exact id
  | n + 2 => exact fun ⟨q, hz, hq⟩ => ⟨q, hz, (o.block q (lt_of_block hq) (fun q => q.elim)).trans hq⟩
theorem Wr.lt {B : Nat} {w : World} {b : Bool} {ws : List Wd} (h : Wr B w b ws) : B < w.heap.size := by
  obtain ⟨p, v, z, t, h1, _⟩ := h; exact lt_of_block h1
theorem Wr.any {B : Nat} {w : World} {ws : List Wd} (h : Wr B w true ws) (ws' : List Wd) : Wr B w true ws' := by
  obtain ⟨p, v, z, t, h1, h2, h3, h4, h5, h6, h7⟩ := h
  exact ⟨p, v, z, t, h1, h2, h3, h4, h5, h6, fun e => by cases e⟩
theorem cell3 {w : World} {B : Nat} {x y z : Value} {t : TypeId} {m : Nat × Nat} (h : w.heap[B]? = some (.cells #[x, y, z] t m)) : w.cell? ⟨B, 0, none⟩ = some x ∧ w.cell? ⟨B, 1, none⟩ = some y ∧ w.cell? ⟨B, 2, none⟩ = some z := by
  simp [World.cell?, h]
/-- A cell of the writer's own block turned. -/
theorem wo_set (B k : Nat) (v : Value) (w : World) : Wo B w (w.setCell ⟨B, k, none⟩ v) := (Only.refl (Mine B w) w).setCell (p := ⟨B, k, none⟩) (Or.inl rfl) v
theorem errV_keep {w w' : World} {z : Value} {e : Nat} (h : errV w z e) (hk : ∀ q : Nat, w.heap[q]? = some (Obj.cells #[.int .i64 5, .int .i64 16384] 70 (0, 0)) → w'.heap[q]? = some (.cells #[.int .i64 5, .int .i64 16384] 70 (0, 0))) : errV w' z e := by
  match e, h with
  | 0, h => exact h
  | 1, h => exact h
  | n + 2, ⟨q, hz, hq⟩ => exact ⟨q, hz, hk q hq⟩
theorem mine_type {B : Nat} {w : World} {q : Nat} {cs : Array Value} {t t' : TypeId} {m m' : Nat × Nat} {c : Array Value} (hB : w.heap[B]? = some (Obj.cells c t' m')) (hq : w.heap[q]? = some (Obj.cells cs t m)) (h1 : t ≠ t') (h2 : t ≠ 5) : ¬ Mine B w q := by
  rintro (rfl | ⟨_, cs', m2, h⟩)
  · rw [hB] at hq; injection hq with hq; injection hq with _ e; exact h1 e.symm
  · rw [hq] at h; injection h with h; injection h with _ e; exact h2 e

set_option maxHeartbeats 400000 in
theorem wrefuse_any {B : Nat} {w : World} {b : Bool} {ws : List Wd} (h : Wr B w b ws) : Calls Tryz.prog 84 #[.pointer (some ⟨B, 0, none⟩)] w fun e w' => e = .returned (.tuple #[]) ∧ Wr B w' true ws ∧ Wo B w w' := by
  obtain ⟨p, v, z, t, h1, h2, h3, h4, h5, h6, h7⟩ := h
  obtain ⟨c0, c1, c2⟩ := cell3 h1
  have f2 := frozen_blk h1 2
  have g1 := heap_setCell_self (o := 2) (.iface 32 (.int .i64 1)) h1
  have g1' : (w.setCell ⟨B, 2, none⟩ (.iface 32 (.int .i64 1))).heap[B]? = some (.cells #[p, v, .iface 32 (.int .i64 1)] 80 (0, 0)) := g1
  have o : Only (At B) w (w.setCell ⟨B, 2, none⟩ (.iface 32 (.int .i64 1))) := (Only.refl (At B) w).setCell (p := ⟨B, 2, none⟩) rfl _
  have fin := Lib.hid (show Wr B (w.setCell ⟨B, 2, none⟩ (.iface 32 (.int .i64 1))) true ws from ⟨p, v, _, t, g1', h2, own_keepT h3 o (ofT_at h1) (by decide), h4, h5, rfl, fun e => by cases e⟩)
  clear h1 h2 h3 h4 h5 h6 h7 g1 g1' o
  go_enter Tryz.func84, Tryz.ntmps84
  go_wp2
  go_end0
  exact ⟨rfl, fin.out, wo_set B 2 _ w⟩

/-! ### The builder -/
set_option maxHeartbeats 1000000 in
theorem len_any {B : Nat} {w : World} {p z : Value} {a : Option Addr} {n c : Nat} (h1 : w.heap[B]? = some (.cells #[p, .slice a n c, z] 80 (0, 0))) : Calls Tryz.prog 81 #[.pointer (some ⟨B, 0, none⟩)] w fun e w' => e = .returned (.int .i64 n) ∧ w = w' := by
  obtain ⟨c0, c1, c2⟩ := cell3 h1
  clear h1
  go_enter Tryz.func81, Tryz.ntmps81
  go_wp2
  go_ret
  exact ⟨rfl, rfl⟩
theorem Tryz.liesB : liesAt Tryz.prog Tryz.prog.depth 80 (3 / Tryz.prog.cellsOf 80) 0 78 1 = true := by kernel_rfl
theorem Tryz.infoB : (Tryz.prog.info? 78).map (·.size) = some 2 := by kernel_rfl
set_option maxRecDepth 100000 in
set_option maxHeartbeats 1000000 in
theorem check_used {B : Nat} {w : World} (h0 : w.cell? ⟨B, 0, none⟩ = some (.pointer (some ⟨B, 0, none⟩))) : Calls Tryz.prog 100 #[.pointer (some ⟨B, 0, none⟩)] w fun e w' => e = .returned (.tuple #[]) ∧ w' = w := by
  obtain ⟨j, hj, _⟩ := Option.map_eq_some_iff.1 Tryz.infoB
  go_enter Tryz.func100, Tryz.ntmps100
  go_wp2
  rw [Lib.run_neq_ptr_same w _ Tryz.underlying75 hj]
  go_wp2
  go_end0
  exact ⟨rfl, rfl⟩
set_option maxRecDepth 100000 in
set_option maxHeartbeats 1000000 in
theorem check_fresh {B : Nat} {w : World} {v z : Value} (h1 : w.heap[B]? = some (.cells #[.pointer none, v, z] 80 (0, 0))) : Calls Tryz.prog 100 #[.pointer (some ⟨B, 0, none⟩)] w fun e w' => e = .returned (.tuple #[]) ∧ w' = w.setCell ⟨B, 0, none⟩ (.pointer (some ⟨B, 0, none⟩)) := by
  obtain ⟨j, hj, hjs⟩ := Option.map_eq_some_iff.1 Tryz.infoB
  obtain ⟨h0, c1, c2⟩ := cell3 h1
  have hfz := frozen_blk h1 0
  have hsh : w.shape? B = some (80, 3) := by simp [World.shape?, h1]
  clear h1
  go_enter Tryz.func100, Tryz.ntmps100
  go_wp2
  rw [Lib.run_to_unsafe w ⟨B, 0, none⟩ Tryz.underlying75 Tryz.underlying111 hj (by rw [hjs]; decide) hsh (Nat.zero_lt_succ 2)]
  simp only [Result.andThen]
  rw [Oper.upon_value]
  go_wp2
  rw [run_callFunc_extern Tryz.func119 (by kernel_rfl) (by kernel_rfl) (by kernel_rfl) (e := Extern.AbiNoEscape.same) (by kernel_rfl)]
  rw [Lib.run_noEscape]
  simp only [Result.andThen]
  rw [Oper.upon_value]
  go_wp2
  rw [Lib.run_from_unsafe w ⟨B, 0, none⟩ Tryz.underlying111 Tryz.underlying75 hj hsh Tryz.liesB]
  simp only [Result.andThen]
  rw [Oper.upon_value]
  go_wp2
  go_end0
  exact ⟨rfl, rfl⟩
end Go.Proofs.YtnkokonkbklelaaGreatDoor.Ps

/- parse: a writer writes words. -/
set_option linter.unusedVariables false
namespace Go.Proofs.YtnkokonkbklelaaGreatDoor.Ps
open Go.RowKit Go.Proofs.YtnkokonkbklelaaGreatDoor Lx

/-- A builder at B that holds t, with z beside it. -/
def Bd (B : Nat) (w : World) (z : Value) (t : Wd) : Prop :=
  ∃ p v, w.heap[B]? = some (.cells #[p, v, z] 80 (0, 0)) ∧ (p = .pointer none ∨ p = .pointer (some ⟨B, 0, none⟩)) ∧ w.ownsRow B 5 1 v t.length (Lib.byteCells t) ∧ (v = .slice none 0 0 ↔ t = [])
theorem Wr.bd {B : Nat} {w : World} {b : Bool} {ws : List Wd} (h : Wr B w b ws) : ∃ z t, Bd B w z t ∧ t.length ≤ 16384 ∧ errV w z (er b (joinW ws)) ∧ (er b (joinW ws) = 0 → t = joinW ws) := by
  obtain ⟨p, v, z, t, h1, h2, h3, h4, h5, h6, h7⟩ := h
  exact ⟨z, t, ⟨p, v, h1, h2, h3, h4⟩, h5, h6, h7⟩
theorem Bd.wr {B : Nat} {w : World} {b : Bool} {ws : List Wd} {z : Value} {t : Wd} (h : Bd B w z t) (h5 : t.length ≤ 16384) (h6 : errV w z (er b (joinW ws))) (h7 : er b (joinW ws) = 0 → t = joinW ws) : Wr B w b ws := by
  obtain ⟨p, v, h1, h2, h3, h4⟩ := h
  exact ⟨p, v, z, t, h1, h2, h3, h4, h5, h6, h7⟩
theorem Tryz.infoU8 : (Tryz.prog.info? 5).map (fun i => (i.zero, i.size, i.bytes)) = some (some (.int .u8 0), 1, 1) := by kernel_rfl

set_option maxRecDepth 100000 in
set_option maxHeartbeats 2000000 in
theorem write_any {B : Nat} {w : World} {z : Value} {t : Wd} (h : Bd B w z t) (s : Wd) (hb : t.length + s.length ≤ 1000000) :
    Calls Tryz.prog 82 #[.pointer (some ⟨B, 0, none⟩), .string (bs s)] w fun e w' => e = .returned (.tuple #[.int .i64 s.length, .nilIface]) ∧ Bd B w' z (t ++ s) ∧ Wo B w w' := by
  obtain ⟨p, v, h1, h2, h3, h4⟩ := h
  have hs : (bs s).size = s.length := bs_size s
  have CK : Hid (Calls Tryz.prog 100 #[.pointer (some ⟨B, 0, none⟩)] w fun e w1 => e = .returned (.tuple #[]) ∧ w1.heap[B]? = some (.cells #[.pointer (some ⟨B, 0, none⟩), v, z] 80 (0, 0)) ∧ w1.ownsRow B 5 1 v t.length (Lib.byteCells t) ∧ Wo B w w1) := by
    refine Lib.hid ?_
    rcases h2 with rfl | rfl
    · refine (check_fresh h1).mono ?_
      rintro e w1 ⟨rfl, rfl⟩
      exact ⟨rfl, heap_setCell_self (o := 0) _ h1, own_keepT h3 ((Only.refl (At B) w).setCell (p := ⟨B, 0, none⟩) rfl _) (ofT_at h1) (by decide), wo_set B 0 _ w⟩
    · refine (check_used (cell3 h1).1).mono ?_
      rintro e w1 ⟨rfl, rfl⟩
      exact ⟨rfl, h1, h3, Wo.refl _ _⟩
  have H4 := Lib.hid h4
  have HB := Lib.hid hb
  clear h1 h2 h3 h4 hb
  obtain ⟨i0, hi, hz0, hz1, hz2⟩ := info_parts Tryz.infoU8
  go_enter Tryz.func82, Tryz.ntmps82
  go_wp2_with fail
  refine CK.out.mono ?_
  rintro e w1 ⟨rfl, h1, h3, o1⟩
  obtain ⟨c0, c1, c2⟩ := cell3 h1
  have lt1 := lt_of_block h1
  have H1 := Lib.hid h1
  have H3 := Lib.hid h3
  have O1 := Lib.hid o1
  clear h1 h3 o1
  go_wp2_with (at_builtin; refine Lib.wpList_append_own_string _ rfl _ _ 76 9 rfl B 5 i0 Tryz.underlying76 Tryz.underlying9 hi hz0 hz1 hz2 _ _ _ rfl H3.out (bs s) rfl ?c3 ?c4 ?c5 ?_)
  case c3 => rw [hs]; unfold maxLen; have := HB.out; omega
  case c4 => rw [hs]; have := HB.out; omega
  case c5 => omega
  intro v' w2 hown' hgrow hnil
  have o2 : Wo B w1 w2 := (Only.ofGrown hgrow).mono (fun k hk => by
    rcases H3.out.2 with ⟨rfl, _⟩ | ⟨g, c', cur, rfl, hbg, hg, _⟩
    · simp [Value.ownBlock] at hk
    · have e : k = g := by simpa [Value.ownBlock] using hk
      subst e
      have hne : k ≠ B := fun e => by
        subst e
        have := H1.out.symm.trans hg
        injection this with this
        injection this with _ e2
        exact absurd e2 (by decide)
      exact Or.inr ⟨by omega, _, _, hg⟩)
  have hne : ¬ some B = v.ownBlock := fun hk => by
    rcases H3.out.2 with ⟨rfl, _⟩ | ⟨g, c', cur, rfl, hbg, hg, _⟩
    · simp [Value.ownBlock] at hk
    · have e : B = g := by simpa [Value.ownBlock] using hk
      subst e
      have := H1.out.symm.trans hg
      injection this with this
      injection this with _ e2
      exact absurd e2 (by decide)
  have h1' := ((Only.ofGrown hgrow).block B lt1 hne).trans H1.out
  obtain ⟨ao, n', cap, rfl⟩ : ∃ ao n' cap, v' = .slice ao n' cap := by
    obtain ⟨a, c, hv⟩ := own_slice_n hown'
    exact ⟨a, _, c, hv⟩
  obtain ⟨d0, d1, d2⟩ := cell3 h1'
  have f1 := frozen_blk h1' 1
  have g1 : (w2.setCell ⟨B, 1, none⟩ (.slice ao n' cap)).heap[B]? = some (.cells #[.pointer (some ⟨B, 0, none⟩), .slice ao n' cap, z] 80 (0, 0)) := heap_setCell_self (o := 1) _ h1'
  have own2 := own_keepT hown' ((Only.refl (At B) w2).setCell (p := ⟨B, 1, none⟩) rfl (.slice ao n' cap)) (ofT_at h1') (by decide)
  have fin := Lib.hid (show Bd B (w2.setCell ⟨B, 1, none⟩ (.slice ao n' cap)) z (t ++ s) from by
    refine ⟨_, _, g1, Or.inr rfl, ?_, ?_⟩
    · have e : Lib.byteCells t ++ Lib.strCells (bs s) = Lib.byteCells (t ++ s) := by
        rw [Lib.strCells_eq, bs_list]; simp [Lib.byteCells]
      rw [← e, List.length_append]
      exact own2
    · rw [hnil, H4.out]
      constructor
      · rintro ⟨rfl, rfl⟩
        rfl
      · intro h
        exact List.append_eq_nil_iff.1 h)
  have OF := Lib.hid ((O1.out.trans o2).trans (wo_set B 1 (.slice ao n' cap) w2))
  clear own2 g1 h1' hnil hown' hgrow o2 hne
  go_wp2
  go_ret2
  exact ⟨rfl, fin.out, OF.out⟩
end Go.Proofs.YtnkokonkbklelaaGreatDoor.Ps

/- parse: a writer puts words. -/
set_option linter.unusedVariables false
namespace Go.Proofs.YtnkokonkbklelaaGreatDoor.Ps
open Go.RowKit Go.Proofs.YtnkokonkbklelaaGreatDoor Lx

/-- The slice at a, of the words vs, in a block of strings. -/
def SB (w : World) (a : Option Addr) (vs : List Wd) : Prop := ∃ b m, a = some ⟨b, 0, none⟩ ∧ w.heap[b]? = some (.cells (vs.map fun s => Value.string (bs s)).toArray 9 m)
theorem sb_new (w : World) (vs : List Wd) : SB (w.alloc (.cells (vs.map fun s => Value.string (bs s)).toArray 9)) (some ⟨w.heap.size, 0, none⟩) vs := ⟨_, _, rfl, heap_new w _⟩
theorem SB.keep {B : Nat} {w w' : World} {a : Option Addr} {vs : List Wd} {b : Bool} {ws : List Wd} (h : SB w a vs) (hw : Wr B w b ws) (o : Wo B w w') : SB w' a vs := by
  obtain ⟨q, m, ha, hq⟩ := h
  obtain ⟨p, v, z, t, h1, _⟩ := hw
  exact ⟨q, m, ha, (o.block q (lt_of_block hq) (mine_type h1 hq (by decide) (by decide))).trans hq⟩
theorem Wr.stuck {B : Nat} {w : World} {b : Bool} {ws : List Wd} (h : Wr B w b ws) (he : er b (joinW ws) ≠ 0) (vs : List Wd) : Wr B w b (ws ++ vs) := by
  obtain ⟨z, t, h1, h5, h6, h7⟩ := h.bd
  have e : er b (joinW (ws ++ vs)) = er b (joinW ws) := by
    have hle := foldl_le (joinW ws) vs
    rw [← joinW_append] at hle
    unfold er at he ⊢
    cases b with
    | true => rfl
    | false =>
      simp only [Bool.false_eq_true, if_false] at he ⊢
      by_cases h1 : 16384 < (joinW ws).length
      · rw [if_pos h1, if_pos (by omega)]
      · rw [if_neg h1] at he; exact absurd rfl he
  exact h1.wr h5 (e ▸ h6) (fun h0 => absurd (e ▸ h0) he)
theorem wr_B {B : Nat} {w : World} {b : Bool} {ws : List Wd} (h : Wr B w b ws) : ∃ p v z m, w.heap[B]? = some (.cells #[p, v, z] 80 m) := by
  obtain ⟨p, v, z, t, h1, _⟩ := h; exact ⟨p, v, z, _, h1⟩
theorem jn_nil (y : Wd) : jn [] y = y := if_pos rfl
theorem jn_cons {t : Wd} (h : t ≠ []) (y : Wd) : jn t y = t ++ 32 :: y := if_neg h
theorem er_ok {t : Wd} : er false t = 0 ↔ t.length ≤ 16384 := by
  unfold er
  simp only [Bool.false_eq_true, if_false]
  split <;> simp_all
theorem er_zero {b : Bool} {t : Wd} (h : er b t = 0) : b = false ∧ t.length ≤ 16384 := by
  cases b with
  | true => cases h
  | false => exact ⟨rfl, er_ok.1 h⟩
theorem joinW_snoc (ws : List Wd) (y : Wd) : joinW (ws ++ [y]) = jn (joinW ws) y := by rw [joinW_append]; rfl
theorem take_snoc {vs : List Wd} {k : Nat} (h : k < vs.length) : vs.take (k + 1) = vs.take k ++ [vs[k]] := by rw [List.take_succ_eq_append_getElem h]
/-- Its error is there. -/
theorem errV_some {w : World} {z : Value} {e : Nat} (h : errV w z e) (he : e ≠ 0) : ∃ t v, z = .iface t v := by
  match e, h with
  | 0, _ => exact absurd rfl he
  | 1, h => exact ⟨_, _, h⟩
  | n + 2, ⟨q, hz, _⟩ => exact ⟨_, _, hz⟩
theorem blank_bs (y : Wd) : ({ data := #[32] } : ByteArray) ++ bs y = bs (32 :: y) := bs_append [32] y

set_option maxRecDepth 100000 in
set_option maxHeartbeats 8000000 in
theorem put_any {B : Nat} {w : World} {b : Bool} {ws : List Wd} {a : Option Addr} {n cap : Nat} (vs : List Wd) (h : Wr B w b ws) (hs : SB w a vs) (hn : vs.length = n) (few : n ≤ 100) (hv : b = false → ∀ v ∈ vs, v.length ≤ 100) :
    Calls Tryz.prog 55 #[.pointer (some ⟨B, 0, none⟩), .slice a n cap] w fun e w' => e = .returned (.tuple #[]) ∧ Wr B w' b (ws ++ vs) ∧ Wo B w w' := by
  have H := Lib.hid h
  have HS := Lib.hid hs
  have HN := Lib.hid hn
  have HV := Lib.hid hv
  have few' : (n : Int) ≤ 100 := by omega
  clear h hs hn hv few
  go_enter Tryz.func55, Tryz.ntmps55
  go_wp2
  go_loopw [8] (fun s8 wr => ∃ k : Nat, k ≤ n ∧ s8 = .int .i64 (k : Int) ∧ Hid (Wr B wr b (ws ++ vs.take k)) ∧ Hid (Wo B w wr))
    (fun s8 _ => n - (intOf s8).toNat)
  case atStart => exact ⟨0, Nat.zero_le _, rfl, Lib.hid (by rw [List.take_zero, List.append_nil]; exact H.out), Lib.hid (Wo.refl _ _)⟩
  case round =>
    obtain ⟨k, hk, rfl, hW, hO⟩ := hrel
    by_cases hkn : k < n
    · obtain ⟨q, m, rfl, hq⟩ := HS.out.keep H.out hO.out
      have hkv : k < vs.length := by rw [HN.out]; exact hkn
      have cq : wr.cell? ⟨q, k, none⟩ = some (.string (bs vs[k])) := by
        simp only [World.cell?, hq]
        simp [hkv]
      have HT := Lib.hid (take_snoc hkv)
      have HL := Lib.hid (fun hb => HV.out hb vs[k] (List.getElem_mem hkv))
      clear hq
      generalize vs[k] = y at *
      by_cases he : er b (joinW (ws ++ vs.take k)) = 0
      · obtain ⟨hbf, hlen⟩ := er_zero he
        obtain ⟨z, t, hB, h5, h6, h7⟩ := hW.out.bd
        have ht := h7 he
        have hz0 : z = .nilIface := by rw [he] at h6; exact h6
        subst hz0
        subst hbf
        have hB' := hB
        obtain ⟨p, v, g1, g2, g3, g4⟩ := hB'
        obtain ⟨va, vc, rfl⟩ := own_slice_n g3
        obtain ⟨c0, c1, c2⟩ := cell3 g1
        have f2 := frozen_blk g1 2
        have LEN := Lib.hid (len_any g1)
        have hyl := HL.out rfl
        have HBD := Lib.hid hB
        have HJ := Lib.hid (show joinW (ws ++ vs.take (k + 1)) = jn t y by rw [HT.out, ← List.append_assoc, joinW_snoc, ht])
        have HG := Lib.hid g1
        clear h6 h7 he hB g1 g2 g3 g4
        by_cases ht0 : t = []
        · have hj : jn t y = y := by rw [ht0, jn_nil]
          have hgt : decide ((0 : Int) < (t.length : Int)) = false := by rw [ht0]; rfl
          have ht00 : t.length = 0 := by rw [ht0]; rfl
          have hsz : (bs y).size = y.length := bs_size y
          have hlong : decide ((16384 : Int) < (y.length : Int)) = false := by simp; omega
          have HW7 := Lib.hid (fun (w1 : World) (hb1 : Bd B w1 .nilIface (t ++ y)) => show Wr B w1 false (ws ++ vs.take (k + 1)) from by
            rw [ht0, List.nil_append] at hb1
            have e0 : er false (joinW (ws ++ vs.take (k + 1))) = 0 := by rw [HJ.out, hj]; exact er_ok.2 (by omega)
            exact hb1.wr (by omega) (by rw [e0]; rfl) (fun _ => by rw [HJ.out, hj]))
          rw [ht00] at LEN c1
          have HC := Lib.hid (write_any HBD.out y (by omega))
          clear hj hgt ht
          go_wp2_with (first
            | (go_at_call 81; refine LEN.out.mono ?_; rintro e w' ⟨rfl, rfl⟩)
            | (go_at_call 82; refine HC.out.mono ?_; rintro e w2 ⟨rfl, hb2, o2⟩; have k2 := Lib.hid (HW7.out _ hb2); have oo2 := Lib.hid (hO.out.trans o2); clear hb2 o2))
          go_roundw
          case rel => exact ⟨k + 1, by omega, by go_num, k2, oo2⟩
          case measure => simp [intOf]; omega
        · have hj : jn t y = t ++ 32 :: y := jn_cons ht0 y
          have htp : 0 < t.length := List.length_pos_iff.2 ht0
          have htp' : (0 : Int) < (t.length : Int) := by omega
          have hsz : (bs (32 :: y)).size = y.length + 1 := by rw [bs_size]; rfl
          have hcat := blank_bs y
          by_cases hlong : 16384 < t.length + (y.length + 1)
          · have hd : decide ((16384 : Int) < (t.length : Int) + ((y.length : Int) + 1)) = true := by simp; omega
            have hd2 : decide (16384 < t.length + (y.length + 1)) = true := by simpa using hlong
            have e5 : er false (joinW (ws ++ vs.take (k + 1))) = 5 := by
              rw [HJ.out, hj]; unfold er
              simp only [Bool.false_eq_true, if_false]
              rw [if_pos (by simp; omega)]
            have e5' : er false (joinW (ws ++ vs)) = 5 := by
              have e : ws ++ vs = (ws ++ vs.take (k + 1)) ++ vs.drop (k + 1) := by rw [List.append_assoc, List.take_append_drop]
              have hle := foldl_le (joinW (ws ++ vs.take (k + 1))) (vs.drop (k + 1))
              rw [← joinW_append, ← e] at hle
              have hl2 : 16384 < (joinW (ws ++ vs.take (k + 1))).length := by rw [HJ.out, hj]; simp; omega
              unfold er
              simp only [Bool.false_eq_true, if_false]
              rw [if_pos (by omega)]
            have fin := Lib.hid (show Wr B ((wr.setCell ⟨B, 2, none⟩ (.iface 54 (.pointer (some ⟨wr.heap.size, 0, none⟩)))).alloc (.cells #[.int .i64 5, .int .i64 16384] 70)) false (ws ++ vs) ∧ Wo B wr ((wr.setCell ⟨B, 2, none⟩ (.iface 54 (.pointer (some ⟨wr.heap.size, 0, none⟩)))).alloc (.cells #[.int .i64 5, .int .i64 16384] 70)) from by
              obtain ⟨p', v', g1, g2, g3, g4⟩ := HBD.out
              have o := (Only.refl (At B) wr).setCell (p := ⟨B, 2, none⟩) rfl (.iface 54 (.pointer (some ⟨wr.heap.size, 0, none⟩)))
              have g1' := heap_setCell_self (o := 2) (.iface 54 (.pointer (some ⟨wr.heap.size, 0, none⟩))) g1
              have oA : Only Nil _ ((wr.setCell ⟨B, 2, none⟩ (.iface 54 (.pointer (some ⟨wr.heap.size, 0, none⟩)))).alloc (.cells #[.int .i64 5, .int .i64 16384] 70)) := (Only.refl Nil _).alloc _
              have hq5 := heap_new (wr.setCell ⟨B, 2, none⟩ (.iface 54 (.pointer (some ⟨wr.heap.size, 0, none⟩)))) (.cells #[.int .i64 5, .int .i64 16384] 70)
              have hsz5 : (wr.setCell ⟨B, 2, none⟩ (.iface 54 (.pointer (some ⟨wr.heap.size, 0, none⟩)))).heap.size = wr.heap.size := by simp [World.setCell]
              rw [hsz5] at hq5
              have g1'' := (oA.block B (lt_of_block g1') (fun q => q.elim)).trans g1'
              refine ⟨⟨p', v', _, t, g1'', g2, own_keep (own_keepT g3 o (ofT_at g1) (by decide)) oA (fun _ _ q => q.elim), g4, h5, ?_, fun e => ?_⟩, (wo_set B 2 _ _).trans (Wo.ofNil oA)⟩
              · rw [e5']; exact ⟨_, rfl, hq5⟩
              · rw [e5'] at e; cases e)
            have OF := Lib.hid (hO.out.trans fin.out.2)
            have ltB := lt_of_block HG.out
            clear hlong ht hj e5 e5' htp
            go_wp2_with (go_at_call 81; refine LEN.out.mono ?_; rintro e w' ⟨rfl, rfl⟩)
            (try simp only [Exit.inBlock, Exit.then])
            refine bodyPost_ret (results_none rfl _ _ _) rfl ?_
            exact ⟨rfl, fin.out.1, OF.out⟩
          · have hd : decide ((16384 : Int) < (t.length : Int) + ((y.length : Int) + 1)) = false := by simp; omega
            have hd2 : decide (16384 < t.length + (y.length + 1)) = false := by simpa using hlong
            have HW7 := Lib.hid (fun (w1 : World) (hb1 : Bd B w1 .nilIface (t ++ 32 :: y)) => show Wr B w1 false (ws ++ vs.take (k + 1)) from by
              have e0 : er false (joinW (ws ++ vs.take (k + 1))) = 0 := by rw [HJ.out, hj]; exact er_ok.2 (by simp; omega)
              exact hb1.wr (by simp; omega) (by rw [e0]; rfl) (fun _ => by rw [HJ.out, hj]))
            have HC := Lib.hid (write_any HBD.out (32 :: y) (by simp; omega))
            clear hlong ht hj htp
            go_wp2_with (first
              | (go_at_call 81; refine LEN.out.mono ?_; rintro e w' ⟨rfl, rfl⟩)
              | (go_at_call 82; refine HC.out.mono ?_; rintro e w2 ⟨rfl, hb2, o2⟩; have k2 := Lib.hid (HW7.out _ hb2); have oo2 := Lib.hid (hO.out.trans o2); clear hb2 o2))
            go_roundw
            case rel => exact ⟨k + 1, by omega, by go_num, k2, oo2⟩
            case measure => simp [intOf]; omega
      · obtain ⟨z, t, hB, h5, h6, h7⟩ := hW.out.bd
        obtain ⟨zt, zv, rfl⟩ := errV_some h6 he
        obtain ⟨p, v, g1, _⟩ := hB
        obtain ⟨c0, c1, c2⟩ := cell3 g1
        have fin := Lib.hid (show Wr B wr b (ws ++ vs) from by
          have := hW.out.stuck he (vs.drop k)
          rw [List.append_assoc, List.take_append_drop] at this
          exact this)
        clear g1 h5 h6 h7 he
        go_wp2
        (try simp only [Exit.inBlock, Exit.then])
        refine bodyPost_ret (results_none rfl _ _ _) rfl ?_
        exact ⟨rfl, fin.out, hO.out⟩
    · have e : k = n := by omega
      subst e
      have fin := Lib.hid (show Wr B wr b (ws ++ vs) from by
        have := hW.out
        rw [List.take_of_length_le (by rw [HN.out]; exact Nat.le_refl _)] at this
        exact this)
      clear hkn
      go_wp2
      go_end0
      exact ⟨rfl, fin.out, hO.out⟩
end Go.Proofs.YtnkokonkbklelaaGreatDoor.Ps
