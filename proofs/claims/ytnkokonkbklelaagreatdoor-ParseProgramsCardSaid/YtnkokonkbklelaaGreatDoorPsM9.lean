/- parse: a writer's names, numbers, words. -/
import Derived.Test.YtnkokonkbklelaaGreatDoorPsM8
import Derived.Test.YtnkokonkbklelaaGreatDoorLxM5
import Derived.Lib.ItoaLen
import Derived.Lib.OthersKept
set_option linter.unusedVariables false
namespace Go.Proofs.YtnkokonkbklelaaGreatDoor.Ps
open Go.RowKit Go.Proofs.YtnkokonkbklelaaGreatDoor Lx

set_option maxHeartbeats 1000000 in
theorem wname_any {B : Nat} {w : World} {b : Bool} {ws : List Wd} (h : Wr B w b ws) (s : Wd) (hs : s.length ≤ 140737488355328) :
    Calls Tryz.prog 56 #[.pointer (some ⟨B, 0, none⟩), .string (bs s)] w fun e w' => e = .returned (.string (bs s)) ∧ Wr B w' (b || !isNm s) ws ∧ Wo B w w' := by
  have H := Lib.hid h
  have HN := Lib.hid (fun w => Lx.name_any s w hs)
  clear h hs
  cases hb : isNm s with
  | true =>
    rw [hb] at HN
    rw [Bool.not_true, Bool.or_false]
    clear hb
    go_enter Tryz.func56, Tryz.ntmps56
    go_wp2_with (go_at_call 83; refine (HN.out _).mono ?_; rintro e w1 ⟨rfl, o1⟩)
    go_ret
    exact ⟨rfl, H.out.keep o1, Wo.ofNil o1⟩
  | false =>
    rw [hb] at HN
    rw [Bool.not_false, Bool.or_true]
    clear hb
    go_enter Tryz.func56, Tryz.ntmps56
    go_wp2_with (first
      | (go_at_call 83; refine (HN.out _).mono ?_; rintro e w1 ⟨rfl, o1⟩)
      | (go_at_call 84; refine (wrefuse_any (H.out.keep o1)).mono ?_; rintro e w2 ⟨rfl, k2, o2⟩))
    go_ret
    exact ⟨rfl, k2, (Wo.ofNil o1).trans o2⟩
/-- Is it a number that a text may have? -/
def okN (n : Int) : Bool := decide (0 ≤ n) && decide (n ≤ 65535)
/-- The library's table lies ahead of the writer. -/
def TabB (B : Nat) (w : World) : Prop := Tab w ∧ 6 < B
theorem tab_blk {w w' : World} (h : Tab w) (hs : w.heap.size ≤ w'.heap.size) (e : 6 < w.heap.size → w'.heap[6]? = w.heap[6]?) : Tab w' := by
  have gn : Tryz.prog.globalNamed "internal/strconv.uint64pow10" = some 6 := by kernel_rfl
  unfold Tab Lib.TabIs World.var? at h ⊢
  rw [gn] at h ⊢
  simp only [Option.bind_some] at h ⊢
  have hlt : 6 < w.heap.size := by
    rcases Nat.lt_or_ge 6 w.heap.size with hh | hh
    · exact hh
    · rw [Array.getElem?_eq_none hh] at h; cases h
  rw [e hlt]
  exact h
theorem TabB.wo {B : Nat} {w w' : World} (T : TabB B w) (o : Wo B w w') : TabB B w' :=
  ⟨tab_blk T.1 o.size (fun hlt => o.block _ hlt (o.old (Nat.le_refl _) _ T.2)), T.2⟩
theorem TabB.keep {B : Nat} {w w' : World} (T : TabB B w) (o : Only Nil w w') : TabB B w' := T.wo (Wo.ofNil o)
theorem okN_iff (n : Int) : okN n = true ↔ 0 ≤ n ∧ n ≤ 65535 := by unfold okN; simp
set_option maxHeartbeats 1000000 in
theorem wnumber_any {B : Nat} {w : World} {b : Bool} {ws : List Wd} (h : Wr B w b ws) (n : Int) (hn : inW n) (T : TabB B w) :
    Calls Tryz.prog 57 #[.pointer (some ⟨B, 0, none⟩), .int .i64 n] w fun e w' => e = .returned (.string (bs (Lib.itoa n))) ∧ Wr B w' (b || !okN n) ws ∧ Wo B w w' := by
  have H := Lib.hid h
  have HI := Lib.hid (fun w T => itoa_any n hn w T)
  have HT := Lib.hid T
  clear h hn T
  cases hb : okN n with
  | true =>
    have h1 := (okN_iff n).1 hb
    have d1 : decide (n < 0) = false := by simp; omega
    have d2 : decide (65535 < n) = false := by simp; omega
    rw [Bool.not_true, Bool.or_false]
    clear hb h1
    go_enter Tryz.func57, Tryz.ntmps57
    go_wp2_with (go_at_call 85; refine (HI.out _ HT.out.1).mono ?_; rintro e w1 ⟨rfl, o1⟩)
    go_ret
    exact ⟨rfl, H.out.keep o1, Wo.ofNil o1⟩
  | false =>
    rw [Bool.not_false, Bool.or_true]
    have h1 : ¬ (0 ≤ n ∧ n ≤ 65535) := fun h => by rw [(okN_iff n).2 h] at hb; cases hb
    clear hb
    by_cases h0 : n < 0
    · have d1 : decide (n < 0) = true := by simpa using h0
      clear h0 h1
      go_enter Tryz.func57, Tryz.ntmps57
      go_wp2_with (first
        | (go_at_call 84; refine (wrefuse_any H.out).mono ?_; rintro e w2 ⟨rfl, k2, o2⟩)
        | (go_at_call 85; refine (HI.out _ (HT.out.wo o2).1).mono ?_; rintro e w1 ⟨rfl, o1⟩))
      go_ret
      exact ⟨rfl, k2.keep o1, o2.trans (Wo.ofNil o1)⟩
    · have d1 : decide (n < 0) = false := by simpa using h0
      have d2 : decide (65535 < n) = true := by simp; omega
      clear h0 h1
      go_enter Tryz.func57, Tryz.ntmps57
      go_wp2_with (first
        | (go_at_call 84; refine (wrefuse_any H.out).mono ?_; rintro e w2 ⟨rfl, k2, o2⟩)
        | (go_at_call 85; refine (HI.out _ (HT.out.wo o2).1).mono ?_; rintro e w1 ⟨rfl, o1⟩))
      go_ret
      exact ⟨rfl, k2.keep o1, o2.trans (Wo.ofNil o1)⟩
/-- The word at place i, none beyond. -/
def pickW (ws : List Wd) (i : Int) : Wd := if 0 ≤ i ∧ i < (ws.length : Int) then ws.getD i.toNat [] else []
def okP (ws : List Wd) (i : Int) : Bool := decide (0 ≤ i) && decide (i < (ws.length : Int))
theorem okP_iff (ws : List Wd) (i : Int) : okP ws i = true ↔ 0 ≤ i ∧ i < (ws.length : Int) := by unfold okP; simp
set_option maxHeartbeats 1000000 in
theorem pick_any {B : Nat} {w : World} {b : Bool} {ws vs : List Wd} {a : Option Addr} {n cap : Nat} (h : Wr B w b ws) (i : Int) (hs : SIn w a vs) (hn : vs.length = n) :
    Calls Tryz.prog 86 #[.pointer (some ⟨B, 0, none⟩), .int .i64 i, .slice a n cap] w fun e w' => e = .returned (.string (bs (pickW vs i))) ∧ Wr B w' (b || !okP vs i) ws ∧ Wo B w w' := by
  have H := Lib.hid h
  have HS := Lib.hid hs
  subst hn
  clear h hs
  by_cases hi : 0 ≤ i ∧ i < (vs.length : Int)
  · have hb : okP vs i = true := (okP_iff vs i).2 hi
    have hw : pickW vs i = vs.getD i.toNat [] := if_pos hi
    rw [hb, hw, Bool.not_true, Bool.or_false]
    obtain ⟨k, rfl⟩ : ∃ k : Nat, i = (k : Int) := ⟨i.toNat, by omega⟩
    have hk : k < vs.length := by omega
    obtain ⟨g, rfl, hc⟩ := HS.out k hk
    have c0 := hc k hk
    have d1 : decide ((k : Int) < 0) = false := by simp
    have d2 : decide ((vs.length : Int) ≤ (k : Int)) = false := by simp; omega
    have d3 : decide (vs.length ≤ k) = false := by simp; omega
    have ht : (k : Int).toNat = k := by simp
    rw [ht]
    generalize vs.getD k [] = y at *
    clear hb hw hi hc ht
    go_enter Tryz.func86, Tryz.ntmps86
    go_wp2
    go_ret
    exact ⟨rfl, H.out, Wo.refl _ _⟩
  · have hb : okP vs i = false := by
      cases hx : okP vs i with
      | true => exact absurd ((okP_iff vs i).1 hx) hi
      | false => rfl
    have hw : pickW vs i = [] := if_neg hi
    rw [hb, hw, Bool.not_false, Bool.or_true]
    clear hb hw
    by_cases h0 : i < 0
    · have d1 : decide (i < 0) = true := by simpa using h0
      clear h0 hi
      go_enter Tryz.func86, Tryz.ntmps86
      go_wp2_with (go_at_call 84; refine (wrefuse_any H.out).mono ?_; rintro e w2 ⟨rfl, k2, o2⟩)
      go_ret
      exact ⟨rfl, k2, o2⟩
    · have d1 : decide (i < 0) = false := by simpa using h0
      have d2 : decide ((vs.length : Int) ≤ i) = true := by simp; omega
      clear h0 hi
      go_enter Tryz.func86, Tryz.ntmps86
      go_wp2_with (go_at_call 84; refine (wrefuse_any H.out).mono ?_; rintro e w2 ⟨rfl, k2, o2⟩)
      go_ret
      exact ⟨rfl, k2, o2⟩
end Go.Proofs.YtnkokonkbklelaaGreatDoor.Ps

/- parse: a writer writes what a message is given; the head of a row. -/
set_option linter.unusedVariables false
namespace Go.Proofs.YtnkokonkbklelaaGreatDoor.Ps
open Go.RowKit Go.Proofs.YtnkokonkbklelaaGreatDoor Lx

theorem wrap_in {n : Int} (h : inW n) : IntKind.i64.wrap n = n := by
  unfold inW at h
  simp [IntKind.wrap, IntKind.bits, IntKind.signed]
  omega
theorem pick_in {vs : List Wd} {z : Int} (h : inW z) (hl : vs.length ≤ 1000) : okP vs (IntKind.i64.wrap (z - 1)) = okP vs (z - 1) ∧ pickW vs (IntKind.i64.wrap (z - 1)) = pickW vs (z - 1) := by
  unfold inW at h
  by_cases h0 : -9223372036854775808 ≤ z - 1
  · rw [wrap_in (show inW (z - 1) from ⟨h0, by omega⟩)]
    exact ⟨rfl, rfl⟩
  · have e : z = -9223372036854775808 := by omega
    subst e
    have e2 : IntKind.i64.wrap (-9223372036854775808 - 1) = 9223372036854775807 := by decide
    rw [e2]
    refine ⟨?_, ?_⟩
    · unfold okP
      have h1 : decide ((9223372036854775807 : Int) < (vs.length : Int)) = false := by simp; omega
      have h2 : decide ((0 : Int) ≤ -9223372036854775808 - 1) = false := by decide
      rw [h1, h2]; simp
    · unfold pickW
      rw [if_neg (by omega), if_neg (by omega)]
theorem nm_len {s : Wd} (h : isNm s = true) : s.length ≤ 16 := by
  cases s with
  | nil => cases h
  | cons c r => have := ((nm_iff c r).1 h).2.1; simpa using this
theorem itoa_len {n : Int} (h : inW n) : (Lib.itoa n).length ≤ 21 := Lib.itoa_length_le n h.1 h.2
theorem pickW_len {vs : List Wd} (hv : ∀ v ∈ vs, v.length ≤ 100) (i : Int) : (pickW vs i).length ≤ 100 := by
  unfold pickW
  split
  · rename_i h
    have hk : i.toNat < vs.length := by omega
    have e : vs.getD i.toNat [] = vs[i.toNat] := by simp [List.getD, hk]
    rw [e]; exact hv _ (List.getElem_mem hk)
  · exact Nat.zero_le _
def valW (v n : Int) : Wd := if v = 2 then Lib.itoa n else pickW vals v
def okV (v n : Int) : Bool := if v = 2 then okN n else decide (n = 0) && okP vals v
set_option maxHeartbeats 1000000 in
theorem wvalue_any {B : Nat} {w : World} {b : Bool} {ws : List Wd} (h : Wr B w b ws) (v n : Int) (hv : inW v) (hn : inW n) (T : TabB B w) :
    Calls Tryz.prog 121 #[.pointer (some ⟨B, 0, none⟩), .int .i64 v, .int .i64 n] w fun e w' => e = .returned (.string (bs (valW v n))) ∧ Wr B w' (b || !okV v n) ws ∧ Wo B w w' := by
  have H := Lib.hid h
  have HT := Lib.hid T
  have HN := Lib.hid hn
  by_cases h2 : v = 2
  · subst h2
    have e1 : valW 2 n = Lib.itoa n := rfl
    have e2 : okV 2 n = okN n := rfl
    rw [e1, e2]
    clear h T hv hn e1 e2
    go_enter Tryz.func121, Tryz.ntmps121
    go_wp2_with (go_at_call 57; refine (wnumber_any H.out n HN.out HT.out).mono ?_; rintro e w2 ⟨rfl, k2, o2⟩)
    go_ret
    exact ⟨rfl, k2, o2⟩
  · have e1 : valW v n = pickW vals v := if_neg h2
    have e2 : okV v n = (decide (n = 0) && okP vals v) := if_neg h2
    have hw := wrap_in hv
    have hz : (v == 2) = false := by simpa using h2
    rw [e1, e2]
    clear h T hv hn e1 e2 h2
    by_cases h0 : n = 0
    · subst h0
      rw [show decide ((0 : Int) = 0) = true from rfl, Bool.true_and]
      go_enter Tryz.func121, Tryz.ntmps121
      go_wp2_with (first
        | (go_at_call 127; refine (values_any _).mono ?_; rintro e w1 ⟨a, c, rfl, s1, o1⟩)
        | (go_at_call 86; refine (pick_any (H.out.keep o1) v s1 rfl).mono ?_; rintro e w2 ⟨rfl, k2, o2⟩))
      go_ret
      exact ⟨rfl, k2, (Wo.ofNil o1).trans o2⟩
    · have hne : (n != 0) = true := by simpa using h0
      rw [decide_eq_false h0, Bool.false_and, Bool.not_false, Bool.or_true]
      clear h0
      go_enter Tryz.func121, Tryz.ntmps121
      go_wp2_with (first
        | (go_at_call 84; refine (wrefuse_any H.out).mono ?_; rintro e w3 ⟨rfl, k3, o3⟩)
        | (go_at_call 127; refine (values_any _).mono ?_; rintro e w1 ⟨a, c, rfl, s1, o1⟩)
        | (go_at_call 86; refine (pick_any (k3.keep o1) v s1 rfl).mono ?_; rintro e w2 ⟨rfl, k2, o2⟩))
      go_ret
      exact ⟨rfl, by rw [Bool.true_or] at k2; exact k2, (o3.trans (Wo.ofNil o1)).trans o2⟩

/-- A block of one's own, of another type than a writer's. -/
def Bx (w : World) (O : Nat) (cs : List Value) (t : TypeId) : Prop := w.heap[O]? = some (.cells cs.toArray t (0, 0))
theorem Bx.keep {w w' : World} {O : Nat} {cs : List Value} {t : TypeId} (h : Bx w O cs t) (o : Only Nil w w') : Bx w' O cs t := (o.block O (lt_of_block h) (fun q => q.elim)).trans h
theorem Bx.wo {B : Nat} {w w' : World} {O : Nat} {cs : List Value} {t : TypeId} {b : Bool} {ws : List Wd} (h : Bx w O cs t) (hw : Wr B w b ws) (o : Wo B w w') (h1 : t ≠ 80) (h2 : t ≠ 5) : Bx w' O cs t := by
  obtain ⟨p, v, z, m, hB⟩ := wr_B hw
  exact (o.block O (lt_of_block h) (mine_type hB h h1 h2)).trans h
theorem Bx.cell {w : World} {O : Nat} {cs : List Value} {t : TypeId} (h : Bx w O cs t) (k : Nat) {v : Value} (hk : cs[k]? = some v) : w.cell? ⟨O, k, none⟩ = some v := by
  rw [cell_of_row w O k _ _ _ h]; simpa using hk
theorem Bx.free {w : World} {O : Nat} {cs : List Value} {t : TypeId} (h : Bx w O cs t) (k : Nat) : w.frozen? ⟨O, k, none⟩ = false := frozen_blk h k
theorem bx_new (w : World) (cs : List Value) (t : TypeId) : Bx (w.alloc (.cells cs.toArray t)) w.heap.size cs t := heap_new w _
def headW (x : Rw) : List Wd := if x.only then [w_on, x.tag, Lib.itoa x.n] else if x.tag = [] then [w_any] else [w_on, x.tag]
def okH (x : Rw) : Bool := if x.only then isNm x.tag && okN x.n else decide (x.n = 0) && (decide (x.tag = []) || isNm x.tag)
theorem or_not_or (b c d : Bool) : ((b || !c) || !d) = (b || !(c && d)) := by cases b <;> cases c <;> cases d <;> rfl
theorem or_false_left {b c : Bool} (h : (b || !c) = false) : b = false ∧ c = true := by cases b <;> cases c <;> simp_all
set_option maxRecDepth 100000 in
set_option maxHeartbeats 4000000 in
theorem head_any {B : Nat} {w : World} {b : Bool} {ws : List Wd} (h : Wr B w b ws) (x : Rw) (sl : Value) (hsl : ∃ a n c, sl = .slice a n c) (hn : inW x.n) (ht : x.tag.length ≤ 140737488355328) (T : TabB B w) :
    Calls Tryz.prog 102 #[.pointer (some ⟨B, 0, none⟩), .agg #[.string (bs x.tag), .bool x.only, .int .i64 x.n, sl]] w fun e w' => e = .returned (.tuple #[]) ∧ Wr B w' (b || !okH x) (ws ++ headW x) ∧ Wo B w w' := by
  obtain ⟨sa, sn, sc, rfl⟩ := hsl
  obtain ⟨tag, only, n, E⟩ := x
  have oO : Only Nil w (w.alloc (.cells #[.string (bs tag), .bool only, .int .i64 n, .slice sa sn sc] 46)) := (Only.refl Nil w).alloc _
  have H := Lib.hid (h.keep oO)
  have HT := Lib.hid (T.keep oO)
  have HN := Lib.hid hn
  have HB := Lib.hid (bx_new w (rowL tag only n (.slice sa sn sc)) 46)
  have HO := Lib.hid (Wo.ofNil (B := B) oO)
  have HTL := Lib.hid ht
  obtain ⟨wO, hwO⟩ : ∃ wO, wO = w.alloc (.cells #[.string (bs tag), .bool only, .int .i64 n, .slice sa sn sc] 46) := ⟨_, rfl⟩
  have eO : w.alloc (.cells (rowL tag only n (.slice sa sn sc)).toArray 46) = wO := hwO.symm
  rw [eO] at HB
  rw [← hwO] at H HT HO
  clear h hn T ht oO eO
  have c0 := HB.out.cell 0 (v := .string (bs tag)) rfl
  have c1 := HB.out.cell 1 (v := .bool only) rfl
  have c2 := HB.out.cell 2 (v := .int .i64 n) rfl
  dsimp only at HTL HN
  cases only with
  | true =>
    have e1 : headW ⟨tag, true, n, E⟩ = [w_on, tag, Lib.itoa n] := rfl
    have e2 : okH ⟨tag, true, n, E⟩ = (isNm tag && okN n) := rfl
    rw [e1, e2, ← or_not_or]
    clear e1 e2
    go_enter Tryz.func102, Tryz.ntmps102
    go_upto_region 3 with (fail)
    rw [← hwO]; clear hwO
    generalize w.heap.size = O at *
    have od : Only Nil wO wO.drew := (Only.refl Nil wO).drew
    have HD := Lib.hid (H.out.keep od)
    have TD := Lib.hid (HT.out.keep od)
    have BD := Lib.hid (HB.out.keep od)
    have OD := Lib.hid (HO.out.trans (Wo.ofNil od))
    clear od
    go_region_held3 (fun w' => w'.cell? ⟨O, 0, none⟩ = some (.string (bs tag)) ∧ w'.cell? ⟨O, 2, none⟩ = some (.int .i64 n))
      (first | exact ⟨c0, c2⟩ | exact ⟨d0, d2⟩ | exact ⟨e0, e2⟩ | exact ⟨f0, f2⟩ | go_keep)
      (first
        | (go_at_call 56; refine (wname_any HD.out tag HTL.out).mono ?_; rintro e w2 ⟨rfl, k2, o2⟩; have b2 := BD.out.wo HD.out o2 (by decide) (by decide); have d0 := b2.cell 0 (v := .string (bs tag)) rfl; have d2 := b2.cell 2 (v := .int .i64 n) rfl; have B2 := Lib.hid b2; have K2 := Lib.hid k2; have OO2 := Lib.hid (OD.out.trans o2); have T2 := Lib.hid (TD.out.wo o2); clear b2 k2 o2)
        | (go_at_call 57; refine (wnumber_any K2.out n HN.out T2.out).mono ?_; rintro e w3 ⟨rfl, k3, o3⟩; have b3 := B2.out.wo K2.out o3 (by decide) (by decide); have e0 := b3.cell 0 (v := .string (bs tag)) rfl; have e2 := b3.cell 2 (v := .int .i64 n) rfl; have B3 := Lib.hid b3; have K3 := Lib.hid k3; have OO3 := Lib.hid (OO2.out.trans o3); clear b3 k3 o3)
        | (go_at_call 55; refine (put_any [w_on, tag, Lib.itoa n] (K3.out.keep ((Only.refl Nil w3).alloc _)) (sb_new w3 _) rfl (by simp) (fun hb v hv => by obtain ⟨hb2, h2⟩ := or_false_left hb; obtain ⟨_, h1⟩ := or_false_left hb2; simp at hv; rcases hv with rfl | rfl | rfl; exact (by decide); exact Nat.le_trans (nm_len h1) (by decide); exact Nat.le_trans (itoa_len HN.out) (by decide))).mono ?_; rintro e w4 ⟨rfl, k4, o4⟩; have b4 := (B3.out.keep ((Only.refl Nil w3).alloc _)).wo (K3.out.keep ((Only.refl Nil w3).alloc _)) o4 (by decide) (by decide); have f0 := b4.cell 0 (v := .string (bs tag)) rfl; have f2 := b4.cell 2 (v := .int .i64 n) rfl; have K4 := Lib.hid k4; have OO4 := Lib.hid ((OO3.out.trans (Wo.ofNil ((Only.refl Nil w3).alloc _))).trans o4); clear b4 k4 o4))
    go_wp2
    go_end0
    exact ⟨rfl, K4.out, OO4.out⟩
  | false =>
    by_cases hn0 : n = 0
    · subst hn0
      by_cases ht0 : tag = []
      · subst ht0
        have e1 : headW ⟨[], false, 0, E⟩ = [w_any] := rfl
        have e2 : okH ⟨[], false, 0, E⟩ = true := rfl
        rw [e1, e2, Bool.not_true, Bool.or_false]
        clear e1 e2
        have hz : (bs []).toList.isEmpty = true := by rw [toList_bs]; rfl
        go_enter Tryz.func102, Tryz.ntmps102
        go_upto_region 2 with (fail)
        rw [← hwO]; clear hwO
        generalize w.heap.size = O at *
        go_wp2_with (go_at_call 55; refine (put_any [w_any] (H.out.keep ((Only.refl Nil wO).alloc _)) (sb_new wO _) rfl (by decide) (fun _ v hv => by simp at hv; subst hv; decide)).mono ?_; rintro e w4 ⟨rfl, k4, o4⟩)
        go_end0
        exact ⟨rfl, k4, HO.out.trans ((Wo.ofNil ((Only.refl Nil wO).alloc _)).trans o4)⟩
      · have e1 : headW ⟨tag, false, 0, E⟩ = [w_on, tag] := by unfold headW; rw [if_neg (by simp), if_neg ht0]
        have e2 : okH ⟨tag, false, 0, E⟩ = isNm tag := by unfold okH; simp [ht0]
        rw [e1, e2]
        clear e1 e2
        have hz : (bs tag).toList.isEmpty = false := by rw [toList_bs]; cases tag with | nil => exact absurd rfl ht0 | cons _ _ => rfl
        clear ht0
        go_enter Tryz.func102, Tryz.ntmps102
        go_upto_region 2 with (fail)
        rw [← hwO]; clear hwO
        generalize w.heap.size = O at *
        go_wp2_with (first
          | (go_at_call 56; refine (wname_any H.out tag HTL.out).mono ?_; rintro e w2 ⟨rfl, k2, o2⟩)
          | (go_at_call 55; refine (put_any [w_on, tag] (k2.keep ((Only.refl Nil w2).alloc _)) (sb_new w2 _) rfl (by simp) (fun hb v hv => by obtain ⟨_, h1⟩ := or_false_left hb; simp at hv; rcases hv with rfl | rfl; exact (by decide); exact Nat.le_trans (nm_len h1) (by decide))).mono ?_; rintro e w4 ⟨rfl, k4, o4⟩))
        go_end0
        exact ⟨rfl, k4, (HO.out.trans o2).trans ((Wo.ofNil ((Only.refl Nil w2).alloc _)).trans o4)⟩
    · have e2 : okH ⟨tag, false, n, E⟩ = false := by unfold okH; simp [hn0]
      rw [e2, Bool.not_false, Bool.or_true]
      have hne : (n != 0) = true := by simpa using hn0
      clear e2 hn0
      go_enter Tryz.func102, Tryz.ntmps102
      go_upto_region 2 with (fail)
      rw [← hwO]; clear hwO
      generalize w.heap.size = O at *
      go_wp2_with (go_at_call 84; refine (wrefuse_any H.out).mono ?_; rintro e w2 ⟨rfl, k2, o2⟩)
      go_end0
      exact ⟨rfl, k2.any _, HO.out.trans o2⟩
end Go.Proofs.YtnkokonkbklelaaGreatDoor.Ps

/- parse: a writer writes an effect. -/
set_option linter.unusedVariables false
namespace Go.Proofs.YtnkokonkbklelaaGreatDoor.Ps
open Go.RowKit Go.Proofs.YtnkokonkbklelaaGreatDoor Lx

def partW (x : Eff) (c : UInt8) : Wd := if c = 114 then x.ref else if c = 115 then x.slot else if c = 110 then x.name else if c = 100 then Lib.itoa x.delay else valW x.val x.n
def okPart (x : Eff) (c : UInt8) : Bool := if c = 114 then isNm x.ref else if c = 115 then isNm x.slot else if c = 110 then isNm x.name else if c = 100 then okN x.delay else okV x.val x.n
def zeroP (o : Eff) (c : UInt8) : Eff := if c = 114 then { o with ref := [] } else if c = 115 then { o with slot := [] } else if c = 110 then { o with name := [] } else if c = 100 then { o with delay := 0 } else { o with val := 0, n := 0 }
def wordsE (x : Eff) : List Wd := pickW effw (x.act - 1) :: ((parts x.act).map (partW x) ++ [w_semi])
def okE (x : Eff) : Bool := okP effw (x.act - 1) && ((parts x.act).all (okPart x) && decide ((parts x.act).foldl zeroP { x with act := 0 } = eff0 0))
/-- Its numbers are numbers of 64 bits; its names are no longer than memory is. -/
structure wfE (x : Eff) : Prop where
  act : inW x.act
  val : inW x.val
  n : inW x.n
  delay : inW x.delay
  ref : x.ref.length ≤ 140737488355328
  slot : x.slot.length ≤ 140737488355328
  name : x.name.length ≤ 140737488355328
/-- What a writer is made of doesn't lie in S. -/
def Frs (S : Nat → Prop) (w : World) : Prop := ∀ g, S g → ∀ cs t m, w.heap[g]? = some (.cells cs t m) → t ≠ 80 ∧ t ≠ 5 ∧ t ≠ 70
theorem frs_bx {w : World} {L : Nat} {cs : List Value} {t : TypeId} (h : Bx w L cs t) (h1 : t ≠ 80) (h2 : t ≠ 5) (h3 : t ≠ 70) : Frs (At L) w := by
  intro g hg cs' t' m hq
  unfold At at hg; subst hg
  rw [h] at hq
  injection hq with hq
  injection hq with _ e
  subst e; exact ⟨h1, h2, h3⟩
theorem frs_it {w0 w : World} {I k : Nat} {p : Wd} (h : It w0 I p k w) : Frs (At I) w := by
  intro g hg cs' t' m hq
  unfold At at hg; subst hg
  rw [h.heap] at hq; cases hq
theorem Wr.keepS {S : Nat → Prop} {B : Nat} {w w' : World} {b : Bool} {ws : List Wd} (h : Wr B w b ws) (o : Only S w w') (hS : Frs S w) : Wr B w' b ws := by
  obtain ⟨p, v, z, t, h1, h2, h3, h4, h5, h6, h7⟩ := h
  have k1 := (o.block B (lt_of_block h1) (fun s => (hS B s _ _ _ h1).1 rfl)).trans h1
  refine ⟨p, v, z, t, k1, h2, own_keep h3 o (fun k hk s => ?_), h4, h5, errV_keep h6 (fun q hq => (o.block q (lt_of_block hq) (fun s => (hS q s _ _ _ hq).2.2 rfl)).trans hq), h7⟩
  rcases h3.2 with ⟨rfl, _⟩ | ⟨g, c', cur, rfl, _, hg, _⟩
  · simp [Value.ownBlock] at hk
  · have e : k = g := by simpa [Value.ownBlock] using hk
    subst e
    exact (hS k s _ _ _ hg).2.1 rfl
theorem Wo.newAt {B : Nat} {w w1 w2 : World} {L : Nat} (h : Wo B w w1) (o : Only (At L) w1 w2) (hL : w.heap.size ≤ L) : Wo B w w2 := h.then o (fun q hq hlt => by unfold At at hq; omega)
theorem TabB.at_ {B : Nat} {w w' : World} {q : Nat} (T : TabB B w) (o : Only (At q) w w') (hq : B ≤ q) : TabB B w' :=
  ⟨tab_blk T.1 o.size (fun hlt => o.block _ hlt (fun e => by have := T.2; unfold At at e; omega)), T.2⟩
theorem It.wo {B : Nat} {w0 w w' : World} {I k : Nat} {p : Wd} {b : Bool} {ws : List Wd} (h : It w0 I p k w) (hw : Wr B w b ws) (o : Wo B w w') : It w0 I p k w' := by
  refine ⟨h.new, (o.block I (Array.getElem?_eq_some_iff.1 h.heap).1 ?_).trans h.heap⟩
  rintro (rfl | ⟨_, cs, m, hq⟩)
  · obtain ⟨p', v, z, m, hB⟩ := wr_B hw
    rw [h.heap] at hB; cases hB
  · rw [h.heap] at hq; cases hq
theorem It.keepN {w0 w w' : World} {I k : Nat} {p : Wd} (h : It w0 I p k w) (o : Only Nil w w') : It w0 I p k w' := ⟨h.new, (o.block I (Array.getElem?_eq_some_iff.1 h.heap).1 (fun q => q.elim)).trans h.heap⟩
theorem Bx.at_ {w w' : World} {O q : Nat} {cs : List Value} {t : TypeId} (h : Bx w O cs t) (o : Only (At q) w w') (hq : O ≠ q) : Bx w' O cs t := (o.block O (lt_of_block h) (fun e => hq e)).trans h
theorem Bx.put {w : World} {O : Nat} {cs : List Value} {t : TypeId} (h : Bx w O cs t) (k : Nat) (v : Value) : Bx (w.setCell ⟨O, k, none⟩ v) O (cs.set k v) t := by
  have := heap_setCell_self (o := k) v h
  rw [List.setIfInBounds_toArray] at this
  exact this
theorem It.neBx {w0 w : World} {I k O : Nat} {p : Wd} {cs : List Value} {t : TypeId} (h : It w0 I p k w) (o : Bx w O cs t) : I ≠ O := by
  rintro rfl
  have := h.heap.symm.trans o
  simp at this
theorem take_drop_c {p : Wd} {k : Nat} {c : UInt8} {r : Wd} (h : p.drop k = c :: r) : p.take (k + 1) = p.take k ++ [c] := by
  have hk : k < p.length := by
    rcases Nat.lt_or_ge k p.length with h' | h'
    · exact h'
    · rw [List.drop_of_length_le h'] at h; cases h
  rw [List.take_succ_eq_append_getElem hk]
  have e := List.drop_eq_getElem_cons hk
  rw [h] at e
  rw [← (List.cons.inj e).1]
theorem effw_len : ∀ v ∈ effw, v.length ≤ 100 := by decide
theorem vals_len : ∀ v ∈ vals, v.length ≤ 100 := by decide
theorem valW_len {v n : Int} (h : inW n) : (valW v n).length ≤ 100 := by
  unfold valW
  split
  · exact Nat.le_trans (itoa_len h) (by decide)
  · exact pickW_len vals_len _
theorem ok_step (b c d : Bool) (x : Bool) (h : (b && c) = d) : ((x || !b) || !c) = (x || !d) := by subst h; cases b <;> cases c <;> cases x <;> rfl

set_option linter.unusedSimpArgs false in
set_option maxRecDepth 100000 in
set_option maxHeartbeats 8000000 in
theorem weffect_any {B : Nat} {w : World} {b : Bool} {ws : List Wd} (h : Wr B w b ws) (x : Eff) (hx : wfE x) (T : TabB B w) :
    Calls Tryz.prog 103 #[.pointer (some ⟨B, 0, none⟩), .agg #[.int .i64 x.act, .string (bs x.ref), .string (bs x.slot), .string (bs x.name), .int .i64 x.val, .int .i64 x.n, .int .i64 x.delay]] w fun e w' => e = .returned (.tuple #[]) ∧ Wr B w' (b || !okE x) (ws ++ wordsE x) ∧ Wo B w w' := by
  have oO : Only Nil w (w.alloc (.cells #[.int .i64 x.act, .string (bs x.ref), .string (bs x.slot), .string (bs x.name), .int .i64 x.val, .int .i64 x.n, .int .i64 x.delay] 50)) := (Only.refl Nil w).alloc _
  have H := Lib.hid (h.keep oO)
  have HT := Lib.hid (T.keep oO)
  have HXX := Lib.hid hx
  have HB := Lib.hid (bx_new w (effC x) 50)
  have HO := Lib.hid (Wo.ofNil (B := B) oO)
  have LB := h.lt
  obtain ⟨wO, hwO⟩ : ∃ wO, wO = w.alloc (.cells #[.int .i64 x.act, .string (bs x.ref), .string (bs x.slot), .string (bs x.name), .int .i64 x.val, .int .i64 x.n, .int .i64 x.delay] 50) := ⟨_, rfl⟩
  have eO : w.alloc (.cells (effC x).toArray 50) = wO := hwO.symm
  rw [eO] at HB
  rw [← hwO] at H HT HO
  have hO1 : w.heap.size < wO.heap.size := lt_of_block HB.out
  clear h hx T oO eO
  have od : Only Nil wO wO.drew := (Only.refl Nil wO).drew
  have HD := Lib.hid (H.out.keep od)
  have TD := Lib.hid (HT.out.keep od)
  have BD := Lib.hid (HB.out.keep od)
  have OD := Lib.hid (HO.out.trans (Wo.ofNil od))
  have c0 := HB.out.cell 0 (v := .int .i64 x.act) rfl
  obtain ⟨pk1, pk2⟩ := pick_in (vs := effw) HXX.out.act (by decide)
  have PK1 := Lib.hid pk1
  have PK2 := Lib.hid pk2
  clear od pk1 pk2 hO1
  go_enter Tryz.func103, Tryz.ntmps103
  go_upto_region 1 with (fail)
  rw [← hwO]; clear hwO
  generalize hOO : w.heap.size = O at *
  have HOO := Lib.hid hOO
  clear hOO
  go_region_held3 (fun w' => w'.cell? ⟨O, 0, none⟩ = some (.int .i64 x.act))
    (first | exact c0 | exact d0 | exact e0 | exact f0 | go_keep)
    (first
      | (go_at_call 116; refine (effects_any _).mono ?_; rintro e w1 ⟨a, c, rfl, s1, o1⟩; have b1 := BD.out.keep o1; have d0 := b1.cell 0 (v := .int .i64 x.act) rfl; have B1 := Lib.hid b1; have K1 := Lib.hid (HD.out.keep o1); have T1 := Lib.hid (TD.out.keep o1); have OO1 := Lib.hid (OD.out.trans (Wo.ofNil o1)); have S1 := Lib.hid s1; clear b1 o1 s1)
      | (go_at_call 86; refine (pick_any K1.out _ S1.out rfl).mono ?_; rintro e w2 ⟨rfl, k2, o2⟩; have b2 := B1.out.wo K1.out o2 (by decide) (by decide); have e0 := b2.cell 0 (v := .int .i64 x.act) rfl; have B2 := Lib.hid b2; rw [PK1.out] at k2; have K2 := Lib.hid k2; have T2 := Lib.hid (T1.out.wo o2); have OO2 := Lib.hid (OO1.out.trans o2); clear b2 k2 o2; rw [PK2.out])
      | (go_at_call 55; refine (put_any [pickW effw (x.act - 1)] (K2.out.keep ((Only.refl Nil w2).alloc _)) (sb_new w2 _) rfl (by simp) (fun _ v hv => by simp at hv; subst hv; exact pickW_len effw_len _)).mono ?_; rintro e w3 ⟨rfl, k3, o3⟩; have b3 := (B2.out.keep ((Only.refl Nil w2).alloc _)).wo (K2.out.keep ((Only.refl Nil w2).alloc _)) o3 (by decide) (by decide); have f0 := b3.cell 0 (v := .int .i64 x.act) rfl; have B3 := Lib.hid b3; have K3 := Lib.hid k3; have T3 := Lib.hid ((T2.out.keep ((Only.refl Nil w2).alloc _)).wo o3); have OO3 := Lib.hid ((OO2.out.trans (Wo.ofNil ((Only.refl Nil w2).alloc _))).trans o3); clear b3 k3 o3))
  have q1 := B3.out.cell 1 (v := .string (bs x.ref)) rfl
  have q2 := B3.out.cell 2 (v := .string (bs x.slot)) rfl
  have q3 := B3.out.cell 3 (v := .string (bs x.name)) rfl
  have q4 := B3.out.cell 4 (v := .int .i64 x.val) rfl
  have q5 := B3.out.cell 5 (v := .int .i64 x.n) rfl
  have q6 := B3.out.cell 6 (v := .int .i64 x.delay) rfl
  clear H HT HB HO c0 d0 e0 HD TD BD OD K1 T1 B1 OO1 S1 K2 T2 B2 OO2
  have hoL : Only Nil w3 (w3.alloc (.cells #[.int .i64 0, .string (bs x.ref), .string (bs x.slot), .string (bs x.name), .int .i64 x.val, .int .i64 x.n, .int .i64 x.delay] 50)) := (Only.refl Nil w3).alloc _
  have bL := bx_new w3 (effC { x with act := 0 }) 50
  have LO := lt_of_block B3.out
  obtain ⟨wL, hwL⟩ : ∃ wL, wL = w3.alloc (.cells #[.int .i64 0, .string (bs x.ref), .string (bs x.slot), .string (bs x.name), .int .i64 x.val, .int .i64 x.n, .int .i64 x.delay] 50) := ⟨_, rfl⟩
  have eL : w3.alloc (.cells (effC { x with act := 0 }).toArray 50) = wL := hwL.symm
  rw [eL] at bL
  rw [← hwL] at hoL
  have BL := Lib.hid bL
  have B4 := Lib.hid (B3.out.keep hoL)
  have K4 := Lib.hid (K3.out.keep hoL)
  have T4 := Lib.hid (T3.out.keep hoL)
  have OO4 := Lib.hid (OO3.out.trans (Wo.ofNil hoL))
  have hOL : O ≠ w3.heap.size := by omega
  have hwL3 : w.heap.size ≤ w3.heap.size := OO3.out.size
  have BLt : B < w3.heap.size := K3.out.lt
  have r0 := B4.out.cell 0 (v := .int .i64 x.act) rfl
  clear bL eL B3 K3 T3 OO3 hoL LO
  have HM := Lib.hid (parts_mem x.act)
  have HP := parts_any x.act
  have HWE := Lib.hid (show wordsE x = pickW effw (x.act - 1) :: ((parts x.act).map (partW x) ++ [w_semi]) from rfl)
  have HOE := Lib.hid (show okE x = (okP effw (x.act - 1) && ((parts x.act).all (okPart x) && decide ((parts x.act).foldl zeroP { x with act := 0 } = eff0 0))) from rfl)
  go_upto_region 4 with (fail)
  rw [← hwL]; clear hwL q1 q2 q3 q4 q5 q6 f0
  generalize w3.heap.size = L at *
  generalize hpe : parts x.act = p at *
  clear hpe
  have hI : It w wL.heap.size p 0 (wL.iter (bs p) 0) := ⟨OO4.out.size, World.iter_heap wL (bs p) 0⟩
  have oI : Only Nil wL (wL.iter (bs p) 0) := (Only.refl Nil wL).alloc _
  have hIB : B < wL.heap.size := K4.out.lt
  have HI := Lib.hid hI
  have BL5 := Lib.hid (BL.out.keep oI)
  have B5 := Lib.hid (B4.out.keep oI)
  have K5 := Lib.hid (K4.out.keep oI)
  have T5 := Lib.hid (T4.out.keep oI)
  have OO5 := Lib.hid (OO4.out.trans (Wo.ofNil oI))
  clear hI oI BL B4 K4 T4 OO4
  go_wp2_with (go_at_call 117; refine (HP _).mono ?_; rintro e w' ⟨rfl, rfl⟩)
  clear HP r0
  change Code.wp _ _ _ _ (wL.iter (bs p) 0)
  generalize wL.heap.size = I at *
  generalize wL.iter (bs p) 0 = W4 at *
  have HPL := Lib.hid (bs_size p)
  go_loopw [] (fun wr => ∃ (k : Nat), k ≤ p.length ∧ Hid (Wr B wr ((b || !okP effw (x.act - 1)) || !((p.take k).all (okPart x))) (ws ++ [pickW effw (x.act - 1)] ++ (p.take k).map (partW x))) ∧ Hid (Bx wr O (effC x) 50) ∧ Hid (Bx wr L (effC ((p.take k).foldl zeroP { x with act := 0 })) 50) ∧ Hid (It w I p k wr) ∧ Hid (TabB B wr) ∧ Hid (Wo B w wr))
    (fun wr => p.length - wr.iterPos I)
  case atStart =>
    refine ⟨0, Nat.zero_le _, Lib.hid ?_, B5, BL5, HI, T5, OO5⟩
    have := K5.out
    rw [List.take_zero, List.all_nil, Bool.not_true, Bool.or_false, List.map_nil, List.append_nil]
    exact this
  case round =>
    obtain ⟨k, hk, hK, hB0, hBL, hIt, hT, hW⟩ := hrel
    clear HI BL5 B5 K5 T5 OO5
    by_cases hkl : k < p.length
    · obtain ⟨c, hd, hcb, hcm⟩ := drop_c hkl
      have hit := hIt.out.next (k + 1)
      have oi := iterAt_only wr I (bs p) (k + 1)
      have nIO := hIt.out.neBx hB0.out
      have nIL := hIt.out.neBx hBL.out
      have K6 := Lib.hid (hK.out.keepS oi (frs_it hIt.out))
      have B6 := Lib.hid (hB0.out.at_ oi (Ne.symm nIO))
      have BL6 := Lib.hid (hBL.out.at_ oi (Ne.symm nIL))
      have I6 := Lib.hid hit
      have T6 := Lib.hid (hT.out.at_ oi (by omega))
      have W6 := Lib.hid (hW.out.newAt oi hIt.out.new)
      have hmu := Lib.hid hIt.out.pos
      have HTK := Lib.hid (take_drop_c hd)
      have hlow : c.toNat < 128 := by rcases HM.out c hcm with rfl | rfl | rfl | rfl | rfl <;> decide
      have hnx := fun ty => hIt.out.run hkl c hcb hlow ty
      have hcs := HM.out c hcm
      have HK := Lib.hid hkl
      clear oi hit hIt hK hB0 hBL hT hW hd hcb hcm hlow hkl hk
      generalize wr.iterAt I (bs p) (k + 1) = W5 at *
      have p0 := B6.out
      generalize hzo : (p.take k).foldl zeroP { x with act := 0 } = o at *
      have HZO := Lib.hid hzo
      clear hzo p0
      rcases hcs with rfl | rfl | rfl | rfl | rfl
      · have ec : (((114 : UInt8).toNat : Nat) : Int) = 114 := rfl
        simp only [ec] at hnx
        clear ec
        have HSO := Lib.hid (show ((p.take k).all (okPart x) && isNm x.ref) = (p.take (k + 1)).all (okPart x) by rw [HTK.out, List.all_append]; simp [okPart])
        have HSW := Lib.hid (show (p.take k).map (partW x) ++ [x.ref] = (p.take (k + 1)).map (partW x) by rw [HTK.out, List.map_append]; simp [partW])
        have HSZ := Lib.hid (show { o with ref := [] } = (p.take (k + 1)).foldl zeroP { x with act := 0 } by rw [HTK.out, List.foldl_append, HZO.out]; simp [zeroP])
        have a1 := B6.out.cell 1 (v := .string (bs x.ref)) rfl
        go_wp2_with (first
          | (go_at_call 56; refine (wname_any K6.out x.ref HXX.out.ref).mono ?_; rintro e w7 ⟨rfl, k7, o7⟩; have BL7 := Lib.hid (BL6.out.wo K6.out o7 (by decide) (by decide)); have B7 := Lib.hid (B6.out.wo K6.out o7 (by decide) (by decide)); have I7 := Lib.hid (I6.out.wo K6.out o7); have T7 := Lib.hid (T6.out.wo o7); have W7 := Lib.hid (W6.out.trans o7); have K7 := Lib.hid k7; clear k7 o7)
          | (go_at_call 55; refine (put_any [x.ref] (K7.out.keep ((Only.refl Nil w7).alloc _)) (sb_new w7 _) rfl (by simp) (fun hb v hv => by obtain ⟨_, hok⟩ := or_false_left hb; simp at hv; subst hv; exact Nat.le_trans (nm_len hok) (by decide))).mono ?_; rintro e w8 ⟨rfl, k8, o8⟩; have oa : Only Nil w7 (w7.alloc (.cells #[.string (bs (x.ref))] 9)) := (Only.refl Nil w7).alloc _; have kk := K7.out.keep oa; have bl8 := (BL7.out.keep oa).wo kk o8 (by decide) (by decide); have g1 := bl8.cell 1 (v := .string (bs o.ref)) rfl; have h1 := bl8.free 1; have BL8 := Lib.hid bl8; have B8 := Lib.hid ((B7.out.keep oa).wo kk o8 (by decide) (by decide)); have I8 := Lib.hid ((I7.out.keepN oa).wo kk o8); have T8 := Lib.hid ((T7.out.keep oa).wo o8); have W8 := Lib.hid ((W7.out.trans (Wo.ofNil oa)).trans o8); have K8 := Lib.hid k8; clear bl8 kk oa k8 o8))
        have s9 := ((Only.refl (At L) w8).setCell (p := ⟨L, 1, none⟩) rfl (.string (bs [])))
        have K9 := Lib.hid (K8.out.keepS s9 (frs_bx BL8.out (by decide) (by decide) (by decide)))
        have B9 := Lib.hid (B8.out.at_ s9 hOL)
        have BL9 := Lib.hid (show Bx _ L (effC { o with ref := [] }) 50 from (BL8.out.put 1 (.string (bs []))))
        have I9 := Lib.hid (I8.out.keep s9 (Ne.symm nIL))
        have T9 := Lib.hid (T8.out.at_ s9 (by omega))
        have W9 := Lib.hid (W8.out.newAt s9 hwL3)
        rw [ok_step _ _ _ _ HSO.out, List.append_assoc, HSW.out] at K9
        rw [HSZ.out] at BL9
        clear s9
        go_roundw
        case rel => exact ⟨k + 1, HK.out, K9, B9, BL9, I9, T9, W9⟩
        case measure => refine Nat.lt_of_le_of_lt (Nat.le_of_eq (congrArg (fun z => p.length - z) I9.out.pos)) ?_; rw [hmu.out]; have := HK.out; omega
      · have ec : (((115 : UInt8).toNat : Nat) : Int) = 115 := rfl
        simp only [ec] at hnx
        clear ec
        have HSO := Lib.hid (show ((p.take k).all (okPart x) && isNm x.slot) = (p.take (k + 1)).all (okPart x) by rw [HTK.out, List.all_append]; simp [okPart])
        have HSW := Lib.hid (show (p.take k).map (partW x) ++ [x.slot] = (p.take (k + 1)).map (partW x) by rw [HTK.out, List.map_append]; simp [partW])
        have HSZ := Lib.hid (show { o with slot := [] } = (p.take (k + 1)).foldl zeroP { x with act := 0 } by rw [HTK.out, List.foldl_append, HZO.out]; simp [zeroP])
        have a2 := B6.out.cell 2 (v := .string (bs x.slot)) rfl
        go_wp2_with (first
          | (go_at_call 56; refine (wname_any K6.out x.slot HXX.out.slot).mono ?_; rintro e w7 ⟨rfl, k7, o7⟩; have BL7 := Lib.hid (BL6.out.wo K6.out o7 (by decide) (by decide)); have B7 := Lib.hid (B6.out.wo K6.out o7 (by decide) (by decide)); have I7 := Lib.hid (I6.out.wo K6.out o7); have T7 := Lib.hid (T6.out.wo o7); have W7 := Lib.hid (W6.out.trans o7); have K7 := Lib.hid k7; clear k7 o7)
          | (go_at_call 55; refine (put_any [x.slot] (K7.out.keep ((Only.refl Nil w7).alloc _)) (sb_new w7 _) rfl (by simp) (fun hb v hv => by obtain ⟨_, hok⟩ := or_false_left hb; simp at hv; subst hv; exact Nat.le_trans (nm_len hok) (by decide))).mono ?_; rintro e w8 ⟨rfl, k8, o8⟩; have oa : Only Nil w7 (w7.alloc (.cells #[.string (bs (x.slot))] 9)) := (Only.refl Nil w7).alloc _; have kk := K7.out.keep oa; have bl8 := (BL7.out.keep oa).wo kk o8 (by decide) (by decide); have g2 := bl8.cell 2 (v := .string (bs o.slot)) rfl; have h2 := bl8.free 2; have BL8 := Lib.hid bl8; have B8 := Lib.hid ((B7.out.keep oa).wo kk o8 (by decide) (by decide)); have I8 := Lib.hid ((I7.out.keepN oa).wo kk o8); have T8 := Lib.hid ((T7.out.keep oa).wo o8); have W8 := Lib.hid ((W7.out.trans (Wo.ofNil oa)).trans o8); have K8 := Lib.hid k8; clear bl8 kk oa k8 o8))
        have s9 := ((Only.refl (At L) w8).setCell (p := ⟨L, 2, none⟩) rfl (.string (bs [])))
        have K9 := Lib.hid (K8.out.keepS s9 (frs_bx BL8.out (by decide) (by decide) (by decide)))
        have B9 := Lib.hid (B8.out.at_ s9 hOL)
        have BL9 := Lib.hid (show Bx _ L (effC { o with slot := [] }) 50 from (BL8.out.put 2 (.string (bs []))))
        have I9 := Lib.hid (I8.out.keep s9 (Ne.symm nIL))
        have T9 := Lib.hid (T8.out.at_ s9 (by omega))
        have W9 := Lib.hid (W8.out.newAt s9 hwL3)
        rw [ok_step _ _ _ _ HSO.out, List.append_assoc, HSW.out] at K9
        rw [HSZ.out] at BL9
        clear s9
        go_roundw
        case rel => exact ⟨k + 1, HK.out, K9, B9, BL9, I9, T9, W9⟩
        case measure => refine Nat.lt_of_le_of_lt (Nat.le_of_eq (congrArg (fun z => p.length - z) I9.out.pos)) ?_; rw [hmu.out]; have := HK.out; omega
      · have ec : (((110 : UInt8).toNat : Nat) : Int) = 110 := rfl
        simp only [ec] at hnx
        clear ec
        have HSO := Lib.hid (show ((p.take k).all (okPart x) && isNm x.name) = (p.take (k + 1)).all (okPart x) by rw [HTK.out, List.all_append]; simp [okPart])
        have HSW := Lib.hid (show (p.take k).map (partW x) ++ [x.name] = (p.take (k + 1)).map (partW x) by rw [HTK.out, List.map_append]; simp [partW])
        have HSZ := Lib.hid (show { o with name := [] } = (p.take (k + 1)).foldl zeroP { x with act := 0 } by rw [HTK.out, List.foldl_append, HZO.out]; simp [zeroP])
        have a3 := B6.out.cell 3 (v := .string (bs x.name)) rfl
        go_wp2_with (first
          | (go_at_call 56; refine (wname_any K6.out x.name HXX.out.name).mono ?_; rintro e w7 ⟨rfl, k7, o7⟩; have BL7 := Lib.hid (BL6.out.wo K6.out o7 (by decide) (by decide)); have B7 := Lib.hid (B6.out.wo K6.out o7 (by decide) (by decide)); have I7 := Lib.hid (I6.out.wo K6.out o7); have T7 := Lib.hid (T6.out.wo o7); have W7 := Lib.hid (W6.out.trans o7); have K7 := Lib.hid k7; clear k7 o7)
          | (go_at_call 55; refine (put_any [x.name] (K7.out.keep ((Only.refl Nil w7).alloc _)) (sb_new w7 _) rfl (by simp) (fun hb v hv => by obtain ⟨_, hok⟩ := or_false_left hb; simp at hv; subst hv; exact Nat.le_trans (nm_len hok) (by decide))).mono ?_; rintro e w8 ⟨rfl, k8, o8⟩; have oa : Only Nil w7 (w7.alloc (.cells #[.string (bs (x.name))] 9)) := (Only.refl Nil w7).alloc _; have kk := K7.out.keep oa; have bl8 := (BL7.out.keep oa).wo kk o8 (by decide) (by decide); have g3 := bl8.cell 3 (v := .string (bs o.name)) rfl; have h3 := bl8.free 3; have BL8 := Lib.hid bl8; have B8 := Lib.hid ((B7.out.keep oa).wo kk o8 (by decide) (by decide)); have I8 := Lib.hid ((I7.out.keepN oa).wo kk o8); have T8 := Lib.hid ((T7.out.keep oa).wo o8); have W8 := Lib.hid ((W7.out.trans (Wo.ofNil oa)).trans o8); have K8 := Lib.hid k8; clear bl8 kk oa k8 o8))
        have s9 := ((Only.refl (At L) w8).setCell (p := ⟨L, 3, none⟩) rfl (.string (bs [])))
        have K9 := Lib.hid (K8.out.keepS s9 (frs_bx BL8.out (by decide) (by decide) (by decide)))
        have B9 := Lib.hid (B8.out.at_ s9 hOL)
        have BL9 := Lib.hid (show Bx _ L (effC { o with name := [] }) 50 from (BL8.out.put 3 (.string (bs []))))
        have I9 := Lib.hid (I8.out.keep s9 (Ne.symm nIL))
        have T9 := Lib.hid (T8.out.at_ s9 (by omega))
        have W9 := Lib.hid (W8.out.newAt s9 hwL3)
        rw [ok_step _ _ _ _ HSO.out, List.append_assoc, HSW.out] at K9
        rw [HSZ.out] at BL9
        clear s9
        go_roundw
        case rel => exact ⟨k + 1, HK.out, K9, B9, BL9, I9, T9, W9⟩
        case measure => refine Nat.lt_of_le_of_lt (Nat.le_of_eq (congrArg (fun z => p.length - z) I9.out.pos)) ?_; rw [hmu.out]; have := HK.out; omega
      · have ec : (((100 : UInt8).toNat : Nat) : Int) = 100 := rfl
        simp only [ec] at hnx
        clear ec
        have HSO := Lib.hid (show ((p.take k).all (okPart x) && okN x.delay) = (p.take (k + 1)).all (okPart x) by rw [HTK.out, List.all_append]; simp [okPart])
        have HSW := Lib.hid (show (p.take k).map (partW x) ++ [Lib.itoa x.delay] = (p.take (k + 1)).map (partW x) by rw [HTK.out, List.map_append]; simp [partW])
        have HSZ := Lib.hid (show { o with delay := 0 } = (p.take (k + 1)).foldl zeroP { x with act := 0 } by rw [HTK.out, List.foldl_append, HZO.out]; simp [zeroP])
        have a6 := B6.out.cell 6 (v := .int .i64 x.delay) rfl
        go_wp2_with (first
          | (go_at_call 57; refine (wnumber_any K6.out x.delay HXX.out.delay T6.out).mono ?_; rintro e w7 ⟨rfl, k7, o7⟩; have BL7 := Lib.hid (BL6.out.wo K6.out o7 (by decide) (by decide)); have B7 := Lib.hid (B6.out.wo K6.out o7 (by decide) (by decide)); have I7 := Lib.hid (I6.out.wo K6.out o7); have T7 := Lib.hid (T6.out.wo o7); have W7 := Lib.hid (W6.out.trans o7); have K7 := Lib.hid k7; clear k7 o7)
          | (go_at_call 55; refine (put_any [Lib.itoa x.delay] (K7.out.keep ((Only.refl Nil w7).alloc _)) (sb_new w7 _) rfl (by simp) (fun hb v hv => by obtain ⟨_, hok⟩ := or_false_left hb; simp at hv; subst hv; exact Nat.le_trans (itoa_len HXX.out.delay) (by decide))).mono ?_; rintro e w8 ⟨rfl, k8, o8⟩; have oa : Only Nil w7 (w7.alloc (.cells #[.string (bs (Lib.itoa x.delay))] 9)) := (Only.refl Nil w7).alloc _; have kk := K7.out.keep oa; have bl8 := (BL7.out.keep oa).wo kk o8 (by decide) (by decide); have g6 := bl8.cell 6 (v := .int .i64 o.delay) rfl; have h6 := bl8.free 6; have BL8 := Lib.hid bl8; have B8 := Lib.hid ((B7.out.keep oa).wo kk o8 (by decide) (by decide)); have I8 := Lib.hid ((I7.out.keepN oa).wo kk o8); have T8 := Lib.hid ((T7.out.keep oa).wo o8); have W8 := Lib.hid ((W7.out.trans (Wo.ofNil oa)).trans o8); have K8 := Lib.hid k8; clear bl8 kk oa k8 o8))
        have s9 := ((Only.refl (At L) w8).setCell (p := ⟨L, 6, none⟩) rfl (.int .i64 0))
        have K9 := Lib.hid (K8.out.keepS s9 (frs_bx BL8.out (by decide) (by decide) (by decide)))
        have B9 := Lib.hid (B8.out.at_ s9 hOL)
        have BL9 := Lib.hid (show Bx _ L (effC { o with delay := 0 }) 50 from (BL8.out.put 6 (.int .i64 0)))
        have I9 := Lib.hid (I8.out.keep s9 (Ne.symm nIL))
        have T9 := Lib.hid (T8.out.at_ s9 (by omega))
        have W9 := Lib.hid (W8.out.newAt s9 hwL3)
        rw [ok_step _ _ _ _ HSO.out, List.append_assoc, HSW.out] at K9
        rw [HSZ.out] at BL9
        clear s9
        go_roundw
        case rel => exact ⟨k + 1, HK.out, K9, B9, BL9, I9, T9, W9⟩
        case measure => refine Nat.lt_of_le_of_lt (Nat.le_of_eq (congrArg (fun z => p.length - z) I9.out.pos)) ?_; rw [hmu.out]; have := HK.out; omega
      · have ec : (((118 : UInt8).toNat : Nat) : Int) = 118 := rfl
        simp only [ec] at hnx
        clear ec
        have HSO := Lib.hid (show ((p.take k).all (okPart x) && okV x.val x.n) = (p.take (k + 1)).all (okPart x) by rw [HTK.out, List.all_append]; simp [okPart])
        have HSW := Lib.hid (show (p.take k).map (partW x) ++ [valW x.val x.n] = (p.take (k + 1)).map (partW x) by rw [HTK.out, List.map_append]; simp [partW])
        have HSZ := Lib.hid (show { o with val := 0, n := 0 } = (p.take (k + 1)).foldl zeroP { x with act := 0 } by rw [HTK.out, List.foldl_append, HZO.out]; simp [zeroP])
        have a4 := B6.out.cell 4 (v := .int .i64 x.val) rfl
        have a5 := B6.out.cell 5 (v := .int .i64 x.n) rfl
        go_wp2_with (first
          | (go_at_call 121; refine (wvalue_any K6.out x.val x.n HXX.out.val HXX.out.n T6.out).mono ?_; rintro e w7 ⟨rfl, k7, o7⟩; have BL7 := Lib.hid (BL6.out.wo K6.out o7 (by decide) (by decide)); have B7 := Lib.hid (B6.out.wo K6.out o7 (by decide) (by decide)); have I7 := Lib.hid (I6.out.wo K6.out o7); have T7 := Lib.hid (T6.out.wo o7); have W7 := Lib.hid (W6.out.trans o7); have K7 := Lib.hid k7; clear k7 o7)
          | (go_at_call 55; refine (put_any [valW x.val x.n] (K7.out.keep ((Only.refl Nil w7).alloc _)) (sb_new w7 _) rfl (by simp) (fun hb v hv => by obtain ⟨_, hok⟩ := or_false_left hb; simp at hv; subst hv; exact valW_len HXX.out.n)).mono ?_; rintro e w8 ⟨rfl, k8, o8⟩; have oa : Only Nil w7 (w7.alloc (.cells #[.string (bs (valW x.val x.n))] 9)) := (Only.refl Nil w7).alloc _; have kk := K7.out.keep oa; have bl8 := (BL7.out.keep oa).wo kk o8 (by decide) (by decide); have g4 := bl8.cell 4 (v := .int .i64 o.val) rfl; have h4 := bl8.free 4; have g5 := bl8.cell 5 (v := .int .i64 o.n) rfl; have h5 := bl8.free 5; have BL8 := Lib.hid bl8; have B8 := Lib.hid ((B7.out.keep oa).wo kk o8 (by decide) (by decide)); have I8 := Lib.hid ((I7.out.keepN oa).wo kk o8); have T8 := Lib.hid ((T7.out.keep oa).wo o8); have W8 := Lib.hid ((W7.out.trans (Wo.ofNil oa)).trans o8); have K8 := Lib.hid k8; clear bl8 kk oa k8 o8))
        have s9 := (((Only.refl (At L) w8).setCell (p := ⟨L, 4, none⟩) rfl (.int .i64 0)).setCell (p := ⟨L, 5, none⟩) rfl (.int .i64 0))
        have K9 := Lib.hid (K8.out.keepS s9 (frs_bx BL8.out (by decide) (by decide) (by decide)))
        have B9 := Lib.hid (B8.out.at_ s9 hOL)
        have BL9 := Lib.hid (show Bx _ L (effC { o with val := 0, n := 0 }) 50 from ((BL8.out.put 4 (.int .i64 0)).put 5 (.int .i64 0)))
        have I9 := Lib.hid (I8.out.keep s9 (Ne.symm nIL))
        have T9 := Lib.hid (T8.out.at_ s9 (by omega))
        have W9 := Lib.hid (W8.out.newAt s9 hwL3)
        rw [ok_step _ _ _ _ HSO.out, List.append_assoc, HSW.out] at K9
        rw [HSZ.out] at BL9
        clear s9
        go_roundw
        case rel => exact ⟨k + 1, HK.out, K9, B9, BL9, I9, T9, W9⟩
        case measure => refine Nat.lt_of_le_of_lt (Nat.le_of_eq (congrArg (fun z => p.length - z) I9.out.pos)) ?_; rw [hmu.out]; have := HK.out; omega
    · have e : k = p.length := by omega
      subst e
      have hnx := fun ty => hIt.out.over hkl ty
      have K6 := Lib.hid (show Wr B wr ((b || !okP effw (x.act - 1)) || !(p.all (okPart x))) (ws ++ [pickW effw (x.act - 1)] ++ p.map (partW x)) from by
        have := hK.out; rw [List.take_length] at this; exact this)
      have BL6 := hBL.out
      rw [List.take_length] at BL6
      clear hK hBL hkl
      have W6 := hW
      generalize hzo : p.foldl zeroP { x with act := 0 } = o at *
      have m0 := BL6.cell 0 (v := .int .i64 o.act) rfl
      have m1 := BL6.cell 1 (v := .string (bs o.ref)) rfl
      have m2 := BL6.cell 2 (v := .string (bs o.slot)) rfl
      have m3 := BL6.cell 3 (v := .string (bs o.name)) rfl
      have m4 := BL6.cell 4 (v := .int .i64 o.val) rfl
      have m5 := BL6.cell 5 (v := .int .i64 o.n) rfl
      have m6 := BL6.cell 6 (v := .int .i64 o.delay) rfl
      have hg : ∀ (x y : Operand) (xs ys : Array Value) (w : World), (eqGuard .neq 50 x y (.agg xs) (.agg ys)).run Tryz.prog w = .ok () w := guard_eff
      have hne : ∀ w, (binOp .neq 50 (.agg #[.int .i64 o.act, .string (bs o.ref), .string (bs o.slot), .string (bs o.name), .int .i64 o.val, .int .i64 o.n, .int .i64 o.delay]) (.agg #[.int .i64 0, .string ⟨#[]⟩, .string ⟨#[]⟩, .string ⟨#[]⟩, .int .i64 0, .int .i64 0, .int .i64 0])).run Tryz.prog w = .ok (.bool (!decide (o = eff0 0))) w := fun w => neq_eff o (eff0 0) w
      clear BL6 hzo
      by_cases ho : o = eff0 0
      · rw [decide_eq_true ho] at HOE hne
        clear ho
        have HE : Hid (okE x = (okP effw (x.act - 1) && p.all (okPart x))) := Lib.hid (by rw [HOE.out, Bool.and_true])
        go_wp2_with (go_at_call 55; refine (put_any [w_semi] (K6.out.keep ((Only.refl Nil wr).alloc _)) (sb_new wr _) rfl (by decide) (fun _ v hv => by simp at hv; subst hv; decide)).mono ?_; rintro e w8 ⟨rfl, k8, o8⟩)
        go_end0
        refine ⟨rfl, ?_, (W6.out.trans (Wo.ofNil ((Only.refl Nil wr).alloc _))).trans o8⟩
        rw [HE.out, HWE.out]
        rw [or_not_or] at k8
        simpa using k8
      · rw [decide_eq_false ho] at HOE hne
        clear ho
        have HE : Hid (okE x = false) := Lib.hid (by rw [HOE.out, Bool.and_false, Bool.and_false])
        go_wp2_with (first
          | (go_at_call 84; refine (wrefuse_any K6.out).mono ?_; rintro e w7 ⟨rfl, k7, o7⟩)
          | (go_at_call 55; refine (put_any [w_semi] (k7.keep ((Only.refl Nil w7).alloc _)) (sb_new w7 _) rfl (by decide) (fun _ v hv => by simp at hv; subst hv; decide)).mono ?_; rintro e w8 ⟨rfl, k8, o8⟩))
        go_end0
        refine ⟨rfl, ?_, ((W6.out.trans o7).trans (Wo.ofNil ((Only.refl Nil w7).alloc _))).trans o8⟩
        rw [HE.out, Bool.not_false, Bool.or_true]
        exact k8.any _
end Go.Proofs.YtnkokonkbklelaaGreatDoor.Ps
