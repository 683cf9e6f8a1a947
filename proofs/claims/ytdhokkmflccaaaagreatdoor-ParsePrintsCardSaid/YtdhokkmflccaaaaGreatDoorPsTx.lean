/- parse: the document's text of a program: rows of bytes; put. -/
import Derived.Test.YtdhokkmflccaaaaGreatDoorPsRw
import Derived.Test.YtdhokkmflccaaaaGreatDoorPsDe
set_option linter.unusedVariables false
namespace Go.Proofs.YtdhokkmflccaaaaGreatDoor.Ps
open Go.RowKit Go.Proofs.YtdhokkmflccaaaaGreatDoor Lx

/-- What a text turns: rows of bytes from base on. -/
def Nb (base : Nat) (w : World) (q : Nat) : Prop := base ≤ q ∧ ∃ cs m, w.heap[q]? = some (.cells cs 5 m)
def Wb (base : Nat) (w w' : World) : Prop := Only (Nb base w) w w'
theorem Wb.refl (base : Nat) (w : World) : Wb base w w := Only.refl _ _
theorem Wb.trans {base : Nat} {a b c : World} (h : Wb base a b) (k : Wb base b c) : Wb base a c := by
  refine ⟨k.os.trans h.os, k.tape.trans h.tape, k.output.trans h.output, Nat.le_trans h.size k.size, fun i hi hs => ?_⟩
  have e := h.block i hi hs
  refine (k.block i (Nat.lt_of_lt_of_le hi h.size) (fun s => hs ?_)).trans e
  obtain ⟨s1, cs, m, s2⟩ := s
  exact ⟨s1, cs, m, e ▸ s2⟩
theorem Wb.ofNil {base : Nat} {w w' : World} (o : Only Nil w w') : Wb base w w' := o.nilTo _
theorem Wb.old {base : Nat} {w : World} {D : Nat} (hD : D ≤ base) : ∀ b, b < D → ¬ Nb base w b := fun b hb s => by
  have := s.1; omega
theorem Wb.nil {base : Nat} {w w' : World} (o : Wb base w w') (hb : w.heap.size ≤ base) : Only Nil w w' :=
  ⟨o.os, o.tape, o.output, o.size, fun i hi _ => o.block i hi (fun s => by have := s.1; omega)⟩
theorem Bx.wb {base : Nat} {w w' : World} {O : Nat} {cs : List Value} {t : TypeId} (h : Bx w O cs t) (o : Wb base w w') (ht : t ≠ 5) : Bx w' O cs t := by
  refine (o.block O (lt_of_block h) (fun s => ?_)).trans h
  obtain ⟨_, cs', m, hq⟩ := s
  rw [h] at hq
  injection hq with hq
  injection hq with _ e
  exact ht e
theorem SB.wb {base : Nat} {w w' : World} {a : Option Addr} {vs : List Wd} (h : SB w a vs) (o : Wb base w w') : SB w' a vs := by
  obtain ⟨b, m, rfl, hb⟩ := h
  refine ⟨b, m, rfl, (o.block b (lt_of_block hb) (fun s => ?_)).trans hb⟩
  obtain ⟨_, cs', m', hq⟩ := s
  rw [hb] at hq
  injection hq with hq
  injection hq with _ e
  exact absurd e (by decide)
theorem SB.nil {w w' : World} {a : Option Addr} {vs : List Wd} (h : SB w a vs) (o : Only Nil w w') : SB w' a vs := h.wb (base := 0) (Wb.ofNil o)
/-- A row of bytes from base on. -/
def Tx (base : Nat) (w : World) (v : Value) (t : Wd) : Prop := base ≤ w.heap.size ∧ w.ownsRow base 5 1 v t.length (Lib.byteCells t)
theorem Tx.keep {base : Nat} {w w' : World} {v : Value} {t : Wd} (h : Tx base w v t) (o : Only Nil w w') : Tx base w' v t :=
  ⟨Nat.le_trans h.1 o.size, own_keepT (t := 25) h.2 o (fun g hg => hg.elim) (by decide)⟩
theorem Tx.slice {base : Nat} {w : World} {v : Value} {t : Wd} (h : Tx base w v t) : ∃ a c, v = .slice a t.length c := own_slice_n h.2
theorem Tx.none (base : Nat) (w : World) (h : base ≤ w.heap.size) : Tx base w (.slice none 0 0) [] := ⟨h, World.ownsRow_nil _ _ _ _⟩
theorem bytes_app (t s : Wd) : Lib.byteCells t ++ Lib.byteCells s = Lib.byteCells (t ++ s) := by simp [Lib.byteCells]
theorem bytes_str (t s : Wd) : Lib.byteCells t ++ Lib.strCells (bs s) = Lib.byteCells (t ++ s) := by
  rw [Lib.strCells_eq, bs_list]; simp [Lib.byteCells]
/-- What grew is such a row. -/
theorem Tx.grown {base : Nat} {w w' : World} {v : Value} {t : Wd} (h : Tx base w v t) (g : w.grownBy w' v.ownBlock) : Wb base w w' :=
  (Only.ofGrown g).mono (fun k hk => by
    rcases h.2.2 with ⟨rfl, _⟩ | ⟨b, c', cur, rfl, hbg, hg, _⟩
    · simp [Value.ownBlock] at hk
    · have e : k = b := by simpa [Value.ownBlock] using hk
      subst e
      exact ⟨hbg, _, _, hg⟩)

theorem SBcell {w : World} {g k : Nat} {vs : List Wd} {u : Wd} {t : TypeId} {m : Nat × Nat} (h : w.heap[g]? = some (.cells (vs.map fun s => Value.string (bs s)).toArray t m)) (hu : vs[k]? = some u) : w.cell? ⟨g, k, none⟩ = some (.string (bs u)) := by
  rw [cell_of_row w g k _ _ _ h]; simp [hu]
set_option maxRecDepth 100000 in
set_option maxHeartbeats 8000000 in
theorem rput_any {base : Nat} {w : World} {v : Value} {t : Wd} {a : Option Addr} {n cap : Nat} (vs : List Wd) (h : Tx base w v t) (hs : SB w a vs) (hn : vs.length = n) (few : n ≤ 100) (hv : ∀ u ∈ vs, u.length ≤ 100) (hl : t.length ≤ 100000000) :
    Calls Tryz.prog 52 #[v, .slice a n cap] w fun e w' => ∃ v', e = .returned v' ∧ Tx base w' v' (vs.foldl jn t) ∧ Wb base w w' := by
  obtain ⟨i0, hi, hz0, hz1, hz2⟩ := info_parts Tryz.infoU8
  have hb : base ≤ w.heap.size := h.1
  have HLE := Lib.hid (show ∀ k, ((vs.take k).foldl jn t).length ≤ t.length + 101 * k from fun k => by
    have := foldl_cost t (vs.take k)
    have hc : ∀ us : List Wd, (∀ u ∈ us, u.length ≤ 100) → cost us ≤ 101 * us.length := fun us => by
      induction us with
      | nil => intro _; simp [cost]
      | cons u us ih =>
        intro hu
        have h1 := hu u (List.mem_cons_self ..)
        have h2 := ih (fun x hx => hu x (List.mem_cons_of_mem _ hx))
        rw [cost_c, List.length_cons]; omega
    have h1 := hc (vs.take k) (fun u hu => hv u (List.mem_of_mem_take hu))
    have h2 : (vs.take k).length ≤ k := by rw [List.length_take]; omega
    have h3 : 101 * (vs.take k).length ≤ 101 * k := Nat.mul_le_mul_left _ h2
    omega)
  have HT := Lib.hid h
  have HS := Lib.hid hs
  have HN := Lib.hid hn
  have HV := Lib.hid hv
  have HL := Lib.hid hl
  have hfew : (n : Int) ≤ 100 := by omega
  obtain ⟨va, vc, rfl⟩ := h.slice
  clear h hs hn hv hl
  generalize hvl : t.length = tl' at *
  go_enter Tryz.func52, Tryz.ntmps52
  go_wp2
  go_loopw [0, 5] (fun s0 s5 wr => ∃ (k : Nat) (x : Value), s5 = .int .i64 (k : Int) ∧ k ≤ n ∧ s0 = x ∧ Hid (Tx base wr x ((vs.take k).foldl jn t)) ∧ Hid (Wb base w wr))
    (fun _ s5 _ => n - (intOf s5).toNat)
  case atStart => exact ⟨0, _, rfl, Nat.zero_le _, rfl, by rw [List.take_zero]; exact HT, Lib.hid (Wb.refl _ _)⟩
  case round =>
    obtain ⟨k, x, rfl, hk, rfl, hX, hO⟩ := hrel
    by_cases hkn : k < n
    · obtain ⟨g, m, rfl, hg⟩ := HS.out.wb hO.out
      have hkl : k < vs.length := by rw [HN.out]; exact hkn
      have HX1 := Lib.hid (show (vs.take (k + 1)).foldl jn t = jn ((vs.take k).foldl jn t) vs[k] from by rw [take_snoc hkl, List.foldl_append]; rfl)
      have hu : vs[k].length ≤ 100 := HV.out _ (List.getElem_mem hkl)
      have hcl := HLE.out k
      have e0 : wr.cell? ⟨g, k, none⟩ = some (.string (bs vs[k])) := by rw [cell_of_row wr g k _ _ _ hg]; simp [hkl]
      have HU0 := Lib.hid (List.getElem?_eq_getElem hkl)
      generalize vs[k] = u at *
      generalize (vs.take k).foldl jn t = cur at *
      have hsz : (bs u).size = u.length := bs_size u
      have HU := Lib.hid hu
      have hl2 := HL.out
      have HC := Lib.hid (show cur.length ≤ 100010100 by omega)
      clear hkl hu hcl hl2
      obtain ⟨xa, xc, rfl⟩ := hX.out.slice
      have hgl := lt_of_block hg
      by_cases hc0 : cur = []
      · subst hc0
        rw [jn_nil] at HX1
        go_wp2_with (at_builtin; refine Lib.wpList_append_own_string _ rfl _ _ 97 9 rfl base 5 i0 Tryz.underlying97 Tryz.underlying9 hi hz0 hz1 hz2 _ _ _ rfl hX.out.2 (bs u) rfl ?c3 ?c4 ?c5 ?_)
        case c3 => rw [hsz]; unfold maxLen; have := HU.out; simp; omega
        case c4 => rw [hsz]; have := HU.out; simp; omega
        case c5 => exact hX.out.1
        intro v' w2 hown' hgrow _
        have OW := Lib.hid (hO.out.trans (hX.out.grown hgrow))
        have TT := Lib.hid (show Tx base w2 v' ((vs.take (k + 1)).foldl jn t) from by
          rw [HX1.out]
          refine ⟨Nat.le_trans hX.out.1 (hX.out.grown hgrow).size, ?_⟩
          rw [bytes_str] at hown'
          simpa using hown')
        clear hown' hgrow
        go_wp2
        go_roundw
        case rel => exact ⟨k + 1, v', by go_num, by omega, rfl, TT, OW⟩
        case measure => simp [intOf]; omega
      · have hpos : (0 : Int) < (cur.length : Int) := by
          have := List.length_pos_iff.2 hc0; omega
        rw [jn_cons hc0] at HX1
        have oA : Only Nil wr (wr.alloc (.cells #[.int .u8 32] 5)) := (Only.refl Nil wr).alloc _
        have hXA := Lib.hid (hX.out.keep oA)
        have hnew := heap_new wr (.cells #[.int .u8 32] 5)
        have e0' := only_cell0 oA e0
        have HO2 := Lib.hid (hO.out.trans (Wb.ofNil oA))
        clear hc0
        go_wp2_with (at_builtin; refine wpList_append_own _ rfl _ _ 97 rfl base 5 i0 (.int .u8 0) 1 1 Tryz.underlying97 hi hz0 hz1 hz2 rfl (by decide) _ _ _ rfl hXA.out.2 ⟨wr.heap.size, 0, none⟩ 1 1 [.int .u8 32] rfl rfl ?c1 ?c2 ?c3 ?c4 ?c5 ?_)
        case c1 =>
          intro j y hj
          have : j = 0 := by
            rcases Nat.lt_or_ge j 1 with h | h
            · omega
            · rw [List.getElem?_eq_none (by simpa using h)] at hj; cases hj
          subst this
          rw [add_lit0, cell_of_row _ wr.heap.size 0 _ _ _ hnew]
          simpa using hj
        case c2 => intro y hy; simp at hy; subst hy; rfl
        case c3 => unfold maxLen; have := HC.out; omega
        case c4 => have := HC.out; omega
        case c5 => exact hXA.out.1
        intro v1 w2 hown1 hgrow1 _
        have O2 := Lib.hid (HO2.out.trans (hXA.out.grown hgrow1))
        have T2 := Lib.hid (show Tx base w2 v1 (cur ++ [32]) from ⟨Nat.le_trans hXA.out.1 (hXA.out.grown hgrow1).size, by
          have hc : Lib.byteCells cur ++ [Value.int .u8 32] = Lib.byteCells (cur ++ [32]) := by simp [Lib.byteCells]
          rw [hc] at hown1
          simpa using hown1⟩)
        have e02 : w2.cell? ⟨g, k, none⟩ = some (.string (bs u)) := by
          obtain ⟨g', m', hgg, hg'⟩ := HS.out.wb O2.out
          cases hgg
          exact SBcell hg' HU0.out
        obtain ⟨xa1, xc1, rfl⟩ := T2.out.slice
        clear hown1 hgrow1 hnew e0' e0 oA
        go_wp2_with (at_builtin; refine Lib.wpList_append_own_string _ rfl _ _ 97 9 rfl base 5 i0 Tryz.underlying97 Tryz.underlying9 hi hz0 hz1 hz2 _ _ _ rfl T2.out.2 (bs u) rfl ?d3 ?d4 ?d5 ?_)
        case d3 => rw [hsz]; unfold maxLen; have := HU.out; have := HC.out; simp; omega
        case d4 => rw [hsz]; have := HU.out; have := HC.out; simp; omega
        case d5 => exact T2.out.1
        intro v' w3 hown' hgrow _
        have hg2 : w2.grownBy w3 (Value.slice xa1 (cur ++ [32]).length xc1).ownBlock := by cases xa1 <;> exact hgrow
        have OW := Lib.hid (O2.out.trans (T2.out.grown hg2))
        have TT := Lib.hid (show Tx base w3 v' ((vs.take (k + 1)).foldl jn t) from by
          rw [HX1.out]
          refine ⟨Nat.le_trans T2.out.1 (T2.out.grown hg2).size, ?_⟩
          rw [bytes_str] at hown'
          have el : cur ++ [32] ++ u = cur ++ 32 :: u := by simp
          rw [el] at hown'
          have en : cur.length + 1 + u.length = (cur ++ 32 :: u).length := by simp; omega
          rw [en] at hown'
          exact hown')
        clear hown' hgrow hg2
        go_wp2
        go_roundw
        case rel => exact ⟨k + 1, v', by go_num, by omega, rfl, TT, OW⟩
        case measure => simp [intOf]; omega
    · obtain rfl : k = n := by omega
      have ee : vs.take k = vs := List.take_of_length_le (by rw [HN.out]; exact Nat.le_refl _)
      rw [ee] at hX
      have TT := hX
      obtain ⟨xa, xc, rfl⟩ := TT.out.slice
      clear hkn hX ee
      go_wp2
      go_ret
      exact ⟨_, rfl, TT.out, hO.out⟩
end Go.Proofs.YtdhokkmflccaaaaGreatDoor.Ps
