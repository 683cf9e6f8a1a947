/- wheel: Ids. -/
import Derived.Test.YtpmgmdlfnlmieaaWhS
import Derived.Test.YtpmgmdlfnlmieaaWhR
import Derived.Test.YtpmgmdlfnlmieaaWhL
namespace Go.Proofs.Ytpmgmdlfnlmieaa.Wh
open Go.RowKit Go.Proofs.Ytpmgmdlfnlmieaa

/-- The closure of Ids: one more, within the room that there is. -/
theorem ids1_any {w : World} {T b m : Nat} {P : List Tm} (hm : m < 64) (h : w.heap[b]? = some (.cells #[.slice (some ⟨T, 0, none⟩) m 64] 58 (0, 0))) (ho : w.ownsRow 0 67 3 (.slice (some ⟨T, 0, none⟩) m 64) m (tms P)) (k j i : Nat) (t : Tm) :
    Calls Try.prog 35 #[.agg #[.int .i64 (k : Int), .int .i64 (j : Int), .int .i64 (i : Int)], .agg #[.int .u64 (t.id : Int), .int .i64 (t.due : Int), .int .i64 (t.num : Int)], .pointer (some ⟨b, 0, none⟩)] w fun e w' =>
      e = .returned (.bool true) ∧ w'.heap[b]? = some (.cells #[.slice (some ⟨T, 0, none⟩) (m + 1) 64] 58 (0, 0)) ∧ w'.ownsRow 0 67 3 (.slice (some ⟨T, 0, none⟩) (m + 1) 64) (m + 1) (tms (P ++ [t])) ∧ Only (fun q => q = T ∨ q = b) w w' := by
  have c0 : w.cell? ⟨b, 0, none⟩ = some (.slice (some ⟨T, 0, none⟩) m 64) := by simp [World.cell?, h]
  have f0 : w.frozen? ⟨b, 0, none⟩ = false := by simp [World.frozen?, h]
  have lb : b < w.heap.size := lt_of_block h
  have ne : b ≠ T := by
    rcases ho.2 with ⟨e, _⟩ | ⟨g, cap, cur, e, _, hg, _⟩
    · simp at e
    · simp only [Value.slice.injEq, Option.some.injEq, Addr.mk.injEq, and_true, true_and] at e
      obtain ⟨rfl, _⟩ := e
      exact blk_ne h hg (by decide)
  have h' := Lib.hid h
  have ho' := Lib.hid ho
  have hm' := Lib.hid hm
  have ne' := Lib.hid ne
  clear h ho hm ne
  generalize hx0 : t.id = x0 at *
  generalize hx1 : t.due = x1 at *
  generalize hx2 : t.num = x2 at *
  have ht : Hid (tms (P ++ [t]) = tms P ++ [.int .u64 (x0 : Int), .int .i64 (x1 : Int), .int .i64 (x2 : Int)]) := Lib.hid (by rw [tms_append, tms_one, ← hx0, ← hx1, ← hx2]; rfl)
  have hnew : Hid (((((w.alloc (.cells #[.int .i64 (k : Int), .int .i64 (j : Int), .int .i64 (i : Int)] 65)).alloc (.cells #[.int .u64 (x0 : Int), .int .i64 (x1 : Int), .int .i64 (x2 : Int)] 67)).alloc (.cells #[.int .u64 (x0 : Int), .int .i64 (x1 : Int), .int .i64 (x2 : Int)] 67)).heap[w.heap.size + 1 + 1]? = some (.cells #[.int .u64 (x0 : Int), .int .i64 (x1 : Int), .int .i64 (x2 : Int)] 67 (0, 0)))) := Lib.hid (by
    have := heap_new ((w.alloc (.cells #[.int .i64 (k : Int), .int .i64 (j : Int), .int .i64 (i : Int)] 65)).alloc (.cells #[.int .u64 (x0 : Int), .int .i64 (x1 : Int), .int .i64 (x2 : Int)] 67)) (.cells #[.int .u64 (x0 : Int), .int .i64 (x1 : Int), .int .i64 (x2 : Int)] 67)
    simpa using this)
  have oX := Lib.hid ((((Only.refl Nil w).alloc (.cells #[.int .i64 (k : Int), .int .i64 (j : Int), .int .i64 (i : Int)] 65)).alloc (.cells #[.int .u64 (x0 : Int), .int .i64 (x1 : Int), .int .i64 (x2 : Int)] 67)).alloc (.cells #[.int .u64 (x0 : Int), .int .i64 (x1 : Int), .int .i64 (x2 : Int)] 67))
  obtain ⟨i0, hi0, hz0, hz1, hz2⟩ := info_parts Try.infoTm
  have hu := Try.underlying58
  go_enter Try.func35, Try.ntmps35
  go_wp2_with (at_builtin; refine wpList_append_fits _ rfl (.tmp 6) (.tmp 8) 58 rfl 0 67 i0 3 hu hi0 hz1 T m 64 (tms P) rfl (own_keep ho'.out oX.out (fun _ _ h => h)) ⟨w.heap.size + 1 + 1, 0, none⟩ 1 1 [.int .u64 (x0 : Int), .int .i64 (x1 : Int), .int .i64 (x2 : Int)] rfl rfl (fun j u hj => by
      rw [add_lit0, Nat.zero_add, cell_of_row _ _ _ _ _ _ hnew.out]; simpa using hj) (by intro u hu; simp at hu; rcases hu with rfl | rfl | rfl <;> rfl) (by have := hm'.out; omega) ?_; intro w4 hown4 hg4; have o4 := (Only.ofGrown hg4); have hb4 := (o4.block b (Nat.lt_of_lt_of_le lb oX.out.size) (fun e => ne'.out (by simpa using e))).trans ((oX.out.block b lb (fun h => h.elim)).trans h'.out); have c4 := cell_of_heap hb4; have f4 : w4.frozen? ⟨b, 0, none⟩ = false := (by simp [World.frozen?, hb4]); have l4 := lt_of_block hb4; have hown4' := Lib.hid hown4; have q4 := Lib.hid (oX.out.nilTo (fun q => q = T ∨ q = b) |>.trans (o4.mono (fun q hq => .inl (by simpa using hq)))); have hb4' := Lib.hid hb4; clear hown4 hg4 o4 hb4)
  go_ret
  refine ⟨rfl, by rw [heap_setCell_self _ hb4'.out]; rfl, ?_, q4.out.setCell (p := ⟨b, 0, none⟩) (.inr rfl) _⟩
  rw [ht.out]
  exact own_keep hown4'.out ((Only.refl (fun q => q = b) w4).setCell (p := ⟨b, 0, none⟩) rfl _) (fun q hq e => ne'.out (by rw [← e]; simpa [Value.ownBlock] using hq))
end Go.Proofs.Ytpmgmdlfnlmieaa.Wh
