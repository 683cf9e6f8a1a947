/- ledger, the document's: Holds, Where, Count, with, To, Move, Accept, Held, Same. -/
import Derived.Test.YtlhdecjpjpnlhaaLgH
import Derived.Lib.AppendZerosOnto
namespace Go.Proofs.Ytlhdecjpjpnlhaa.Lg
open Go.RowKit Go.Proofs.Ytlhdecjpjpnlhaa

/-- The slice at a, of the messages X. -/
def RIn (w : World) (a : Option Addr) (X : List Ms) : Prop :=
  ∀ i, i < X.length → ∃ b, a = some ⟨b, 0, none⟩ ∧ b < w.heap.size ∧ ∀ j, j < X.length →
    w.cell? ⟨b, j * 2, none⟩ = some (.int .u64 (X.getD j default).id) ∧ w.cell? ⟨b, j * 2 + 1, none⟩ = some (.int .i64 (X.getD j default).wh)
theorem RIn.nil {w w' : World} {a : Option Addr} {X : List Ms} (h : RIn w a X) (o : Only Nil w w') : RIn w' a X := by
  intro i hi
  obtain ⟨g, ha, hlt, hc⟩ := h i hi
  have e := o.block g hlt (fun s => s)
  refine ⟨g, ha, Nat.lt_of_lt_of_le hlt o.size, fun j hj => ?_⟩
  obtain ⟨c1, c2⟩ := hc j hj
  exact ⟨(World.cell?_of_block (a := ⟨g, j * 2, none⟩) e).trans c1, (World.cell?_of_block (a := ⟨g, j * 2 + 1, none⟩) e).trans c2⟩
theorem PIn.rin {w : World} {T : Nat} {X : List Ms} (h : PIn w T X) : RIn w (some ⟨T, 0, none⟩) X := fun _ _ => ⟨T, rfl, h.1, h.2.2⟩
theorem own_rin {w : World} {base : Nat} {a : Option Addr} {n c : Nat} {X : List Ms} (h : w.ownsRow base 43 2 (.slice a n c) n (pls X)) : RIn w a X := by
  have hl : X.length = n := by have := h.1; rw [pls_length] at this; omega
  subst hl
  intro i hi
  rcases h.2 with ⟨_, h0⟩ | ⟨g, c', cur, hv, _, hg, _⟩
  · omega
  · simp only [Value.slice.injEq] at hv
    obtain ⟨rfl, _, rfl⟩ := hv
    refine ⟨g, rfl, lt_of_block hg, fun j hj => ?_⟩
    have e := pls_get X j hj
    exact ⟨by rw [h.cellAt _ (by omega)]; exact e.1, by rw [h.cellAt _ (by omega)]; exact e.2⟩

/-- In world w' there is a row v' of the messages L'; it is v's or a new one; nothing that there was in w has turned. -/
structure Rs (w w' : World) (v v' : Value) (L' : List Ms) : Prop where
  row : w'.ownsRow 0 43 2 v' L'.length (pls L')
  fr : ∀ g, v'.ownBlock = some g → v.ownBlock = some g ∨ w.heap.size ≤ g
  only : Only Nil w w'
theorem Rs.same {w w' : World} {v : Value} {L : List Ms} (h : w.ownsRow 0 43 2 v L.length (pls L)) (o : Only Nil w w') : Rs w w' v v L := ⟨own_keep h o (fun _ _ h => h), fun _ h => .inl h, o⟩
theorem Rs.more {w w' w'' : World} {v v' : Value} {L : List Ms} (h : Rs w w' v v' L) (o : Only Nil w' w'') : Rs w w'' v v' L := ⟨own_keep h.row o (fun _ _ h => h), h.fr, h.only.trans o⟩
theorem Rs.less {w w1 w' : World} {v v' : Value} {L : List Ms} (h : Rs w1 w' v v' L) (o : Only Nil w w1) : Rs w w' v v' L := ⟨h.row, fun g hg => (h.fr g hg).imp id (fun e => Nat.le_trans o.size e), o.trans h.only⟩

/-- One more at the end of a row that is new. -/
theorem Rs.push {w0 w : World} {a : Option Addr} {c n : Nat} {X : List Ms} (h : Rs w0 w (.slice none 0 0) (.slice a n c) X) (hn : X.length = n) (m : Ms) (few : n ≤ 65000) (cs : Array Value) (hcs : cs = #[.int .u64 m.id, .int .i64 m.wh]) :
    ∃ a' c' w5, (Builtin.append_ #[26, 26] 26 #[.slice a n c, .slice (some ⟨w.heap.size, 0, none⟩) 1 1]).run Try.prog (w.alloc (.cells cs 43)) = .ok (.slice a' (n + 1) c') w5 ∧
      Hid (Rs w0 w5 (.slice none 0 0) (.slice a' (n + 1) c') (X ++ [m])) := by
  subst hcs
  subst hn
  have oA : Only Nil w (w.alloc (.cells #[.int .u64 m.id, .int .i64 m.wh] 43)) := (Only.refl Nil w).alloc _
  obtain ⟨a', c', w5, hr, ho, hon, hsn⟩ := run_append_end (P := Try.prog) (w := w.alloc (.cells #[.int .u64 m.id, .int .i64 m.wh] 43)) (t := 26) (ty := 26) (e := 43) (size := 2) (bytes := 16) Try.underlying26 Try.infoPl rfl (own_keep h.row oA (fun _ _ h => h)) ⟨w.heap.size, 0, none⟩ [.int .u64 m.id, .int .i64 m.wh] rfl (pl_oneCell m)
    (fun j u hj => by
      rw [add_lit0, cell_of_row _ w.heap.size _ _ _ _ (heap_new w (.cells #[.int .u64 m.id, .int .i64 m.wh] 43)), Nat.zero_add]
      simpa using hj) (by omega) (by decide)
  have hrow : ∀ q, RowOf a q → some q = (Value.slice a X.length c).ownBlock := by rintro q ⟨x, rfl, rfl⟩; rfl
  refine ⟨a', c', w5, hr, Lib.hid ⟨?_, fun g hg => ?_, ?_⟩⟩
  · rw [List.length_append, pls_append, pls_one]
    exact ho
  · refine .inr ?_
    cases a' with
    | none => simp [Value.ownBlock] at hg
    | some x =>
      have hg' : x.block = g := by simpa [Value.ownBlock] using hg
      have hs := h.only.size
      have hs2 := oA.size
      rcases hsn x rfl with ⟨y, hy, e⟩ | e
      · rcases h.fr y.block (by rw [hy]; rfl) with h1 | h1
        · simp [Value.ownBlock] at h1
        · omega
      · omega
  · refine (h.only.trans oA).then hon (fun q hq hlt => ?_)
    rcases h.fr q (hrow q hq).symm with h1 | h1
    · simp [Value.ownBlock] at h1
    · omega

theorem holds_any (x : Int) (w : World) : Calls Try.prog 29 #[.int .i64 x] w fun e w' => e = .returned (.bool (held x)) ∧ w = w' := by
  by_cases h1 : 1 ≤ x
  · by_cases h2 : x ≤ 6
    · rw [(held_iff x).2 ⟨h1, h2⟩]
      go_enter Try.func29, Try.ntmps29
      go_wp2
      go_ret
      exact ⟨rfl, rfl⟩
    · rw [(held_not x).2 (by omega)]
      go_enter Try.func29, Try.ntmps29
      go_wp2
      go_ret
      exact ⟨rfl, rfl⟩
  · rw [(held_not x).2 (by omega)]
    go_enter Try.func29, Try.ntmps29
    go_wp2
    go_ret
    exact ⟨rfl, rfl⟩

theorem whOf_drop {X : List Ms} {i : Nat} (h : i < X.length) (x : Int) : whOf (X.drop i) x = if (X.getD i default).id = x then (X.getD i default).wh else whOf (X.drop (i + 1)) x := by
  rw [List.drop_eq_getElem_cons h]
  have e : X.getD i default = X[i] := by simp [List.getD, h]
  rw [e]
  rfl

set_option maxRecDepth 100000 in
theorem rwhere_any {w : World} {a : Option Addr} {X : List Ms} (h : RIn w a X) (cap : Nat) (x : Int) (hl : X.length ≤ 65000) :
    Calls Try.prog 11 #[.slice a X.length cap, .int .u64 x] w fun e w' => e = .returned (.int .i64 (whOf X x)) ∧ w = w' := by
  have h' := Lib.hid h
  have hc := Lib.hid (fun (i : Nat) (hi : i < X.length) => whOf_drop hi x)
  have hall := Lib.hid (show whOf (X.drop X.length) x = 0 by rw [List.drop_length]; rfl)
  clear h
  generalize hlen : X.length = len at *
  have hlen' := Lib.hid hlen
  clear hlen
  have hl' : (len : Int) ≤ 65000 := by omega
  go_enter Try.func11, Try.ntmps11
  go_wp2_with fail
  go_loopw [5] (fun s5 wr => ∃ (i : Nat), i ≤ len ∧ s5 = .int .i64 (i : Int) ∧ Hid (whOf X x = whOf (X.drop i) x) ∧ w = wr)
    (fun s5 _ => len - (intOf s5).toNat)
  case atStart => exact ⟨0, Nat.zero_le _, rfl, Lib.hid rfl, rfl⟩
  case round =>
    obtain ⟨i, hi, rfl, hq, rfl⟩ := hrel
    by_cases hlt : i < len
    · obtain ⟨b, ha, hb1, hb2⟩ := h'.out i (by rw [hlen'.out]; exact hlt)
      subst ha
      obtain ⟨x6, x7⟩ := hb2 i (by rw [hlen'.out]; exact hlt)
      have e1 := Lib.hid (hc.out i hlt)
      have hli : (i : Int) < (len : Int) := by omega
      clear hb2
      by_cases hy : (X.getD i default).id = x
      · have e2 := Lib.hid (show whOf X x = (X.getD i default).wh by rw [hq.out, e1.out, if_pos hy])
        have hy' : ((X.getD i default).id == x) = true := by rw [hy]; exact beq_self_eq_true x
        generalize (X.getD i default).wh = y at *
        generalize (X.getD i default).id = z at *
        subst hy
        go_wp2
        go_ret
        exact ⟨by rw [e2.out]; rfl, rfl⟩
      · have e2 := Lib.hid (show whOf X x = whOf (X.drop (i + 1)) x by rw [hq.out, e1.out, if_neg hy])
        have hy' : ((X.getD i default).id == x) = false := by rw [beq_eq_false_iff_ne]; exact hy
        generalize (X.getD i default).id = z at *
        clear hy
        go_wp2
        go_roundw
        case rel => exact ⟨i + 1, by omega, by go_num, e2, trivial⟩
        case measure => simp [intOf]; omega
    · obtain rfl : i = len := by omega
      have hk0 : ¬ (i : Int) < (i : Int) := by omega
      go_wp2
      go_ret
      exact ⟨by rw [hq.out, hall.out]; rfl, rfl⟩

theorem cq_take (X : List Ms) (q : Int → Bool) (i : Nat) (h : i < X.length) : cq (X.take (i + 1)) q = cq (X.take i) q + (if q (X.getD i default).wh then 1 else 0) := by
  have e : X.take (i + 1) = X.take i ++ [X.getD i default] := by
    rw [List.take_add_one]
    simp [List.getD_eq_getElem?_getD, h]
  rw [e, cq_snoc]

set_option maxRecDepth 100000 in
theorem rcount_any {w : World} {a : Option Addr} {X : List Ms} (h : RIn w a X) (cap : Nat) (x : Int) (hl : X.length ≤ 65000) :
    Calls Try.prog 13 #[.slice a X.length cap, .int .i64 x] w fun e w' => e = .returned (.int .i64 (cnt X x : Nat)) ∧ w = w' := by
  have h' := Lib.hid h
  have hc := Lib.hid (fun (i : Nat) (hi : i < X.length) => show cnt (X.take (i + 1)) x = cnt (X.take i) x + (if (X.getD i default).wh = x then 1 else 0) from by
    have := cq_take X (fun y => y == x) i hi
    simpa [cnt] using this)
  have hle := Lib.hid (fun i => show cnt (X.take i) x ≤ (X.take i).length from cq_le _ _)
  have hall := Lib.hid (show cnt (X.take X.length) x = cnt X x by rw [List.take_length])
  clear h
  generalize hlen : X.length = len at *
  have hlen' := Lib.hid hlen
  clear hlen
  have hl' : (len : Int) ≤ 65000 := by omega
  go_enter Try.func13, Try.ntmps13
  go_wp2_with fail
  go_loopw [5, 6] (fun s5 s6 wr => ∃ (i : Nat), i ≤ len ∧ s5 = .int .i64 (cnt (X.take i) x : Nat) ∧ s6 = .int .i64 (i : Int) ∧ w = wr)
    (fun _ s6 _ => len - (intOf s6).toNat)
  case atStart => exact ⟨0, Nat.zero_le _, rfl, rfl, rfl⟩
  case round =>
    obtain ⟨i, hi, rfl, rfl, rfl⟩ := hrel
    by_cases hlt : i < len
    · obtain ⟨b, ha, hb1, hb2⟩ := h'.out i (by rw [hlen'.out]; exact hlt)
      subst ha
      obtain ⟨_, x7⟩ := hb2 i (by rw [hlen'.out]; exact hlt)
      have e1 := Lib.hid (hc.out i hlt)
      have c1 : ((cnt (X.take i) x : Nat) : Int) ≤ 65000 := by
        have := hle.out i
        simp only [List.length_take] at this
        omega
      generalize cnt (X.take i) x = ci at *
      have hli : (i : Int) < (len : Int) := by omega
      clear hb2
      by_cases hy : (X.getD i default).wh = x
      · have e2 := Lib.hid (show cnt (X.take (i + 1)) x = ci + 1 by rw [e1.out, if_pos hy])
        have hy' : ((X.getD i default).wh == x) = true := by rw [hy]; exact beq_self_eq_true x
        generalize (X.getD i default).wh = y at *
        subst hy
        go_wp2
        go_roundw
        case rel => exact ⟨i + 1, by omega, by rw [e2.out]; go_num, by go_num, trivial⟩
        case measure => simp [intOf]; omega
      · have e2 := Lib.hid (show cnt (X.take (i + 1)) x = ci by rw [e1.out, if_neg hy]; rfl)
        have hy' : ((X.getD i default).wh == x) = false := by rw [beq_eq_false_iff_ne]; exact hy
        generalize (X.getD i default).wh = y at *
        clear hy
        go_wp2
        go_roundw
        case rel => exact ⟨i + 1, by omega, by rw [e2.out], by go_num, trivial⟩
        case measure => simp [intOf]; omega
    · obtain rfl : i = len := by omega
      have hk0 : ¬ (i : Int) < (i : Int) := by omega
      have ha := hall.out
      clear hall hc hle
      generalize cnt (X.take i) x = ci at *
      go_wp2
      go_ret
      exact ⟨by rw [← ha]; rfl, rfl⟩
end Go.Proofs.Ytlhdecjpjpnlhaa.Lg
