/- parse: Program. -/
import Derived.Test.YtnkokonkbklelaaGreatDoorPsM5
import Derived.Test.YtnkokonkbklelaaGreatDoorLxM4
set_option linter.unusedVariables false
namespace Go.Proofs.YtnkokonkbklelaaGreatDoor.Ps
open Go.RowKit Go.Proofs.YtnkokonkbklelaaGreatDoor Lx

/-- What a text comes to: its program, or the number of its fault and the place. -/
inductive Out where
  | ok (P : List Kd)
  | bad (z q : Nat)
def prog (l : List UInt8) : Out :=
  if (whole l).2.1 = 0 then (match pProg (whole l).1 with | .ok P _ => .ok P | .bad r => .bad (flt l.length r).1 (flt l.length r).2) else .bad (whole l).2.1 (whole l).2.2
theorem LX_len (N k : Nat) (m : List UInt8) (hk : m.length ≤ k) : (LX N m).1.length ≤ m.length := by
  induction k generalizing m with
  | zero =>
    have : m = [] := List.eq_nil_of_length_eq_zero (by omega)
    subst this
    rw [LX_nil rfl]; exact Nat.zero_le _
  | succ k ih =>
    cases hs : sk false m with
    | nil => rw [LX_nil hs]; exact Nat.zero_le _
    | cons c r =>
      by_cases h0 : (tok (c :: r)).1 = 0
      · rw [LX_tok hs h0]
        have hl1 := sk_le false m
        rw [hs] at hl1
        obtain ⟨hp, hpre⟩ := tok_pos h0
        have hpl := hpre.length_le
        have := ih ((c :: r).drop (tok (c :: r)).2.w.length) (by simp at hl1 hpl ⊢; omega)
        simp at this hl1 hpl ⊢
        omega
      · rw [LX_bad hs h0]; exact Nat.zero_le _
theorem whole_len (l : List UInt8) : (whole l).1.length ≤ 16384 := by
  unfold whole
  split
  · exact Nat.zero_le _
  · have := LX_len l.length l.length l (Nat.le_refl _); omega
/-- Two results, an aggregate and an error, each in a block of its own. -/
theorem results_cc {P : Program} {fn : Func} {p q : Tmp} {ty te t1 t2 : TypeId} (h : fn.results = #[.cell p ty, .cell q te]) (tmps : Array Value) (w : World) (b d : Nat) (cs : List Value) (u : Value)
    (hag : ∀ w, (isAgg ty).run P w = .ok true w) (hsz : ∀ w, (Go.sizeOf ty).run P w = .ok cs.length w) (hag2 : ∀ w, (isAgg te).run P w = .ok false w)
    (hp : tmps.getD p undef = .pointer (some ⟨b, 0, none⟩)) (hq : tmps.getD q undef = .pointer (some ⟨d, 0, none⟩)) (hc : w.heap[b]? = some (.cells cs.toArray t1 (0, 0))) (hd : w.heap[d]? = some (.cells #[u] t2 (0, 0))) :
    (results fn tmps).run P w = .ok (.tuple #[.agg cs.toArray, u]) w := by
  have hp' : tmps[p]?.getD undef = .pointer (some ⟨b, 0, none⟩) := by simpa using hp
  have hq' : tmps[q]?.getD undef = .pointer (some ⟨d, 0, none⟩) := by simpa using hq
  have hl := run_loadCells_list (P := P) w ⟨b, 0, none⟩ cs (fun j v hj => by
    have e : (⟨b, 0, none⟩ : Addr).add j = ⟨b, j, none⟩ := by unfold Addr.add; split <;> simp_all
    rw [e, cell_of_row w b j _ _ _ hc]; simpa using hj)
  have hu : w.cell? ⟨d, 0, none⟩ = some u := by simp [World.cell?, hd]
  have hl2 : (load (⟨d, 0, none⟩ : Addr)).run P w = .ok u w := by simp [go_sem, hu]
  simp only [results, h]
  simp [Sem.run_bind, Result.andThen, asAddr, loadVar, hag, hsz, hag2, hp', hq', hl, hl2]
theorem run_mf (fn : Fn) (first cap : Array Value) (w : World) : (Instr.makeFunc fn first cap).run Tryz.prog w = .ok (.func fn first cap) w := rfl

/-- Program's two results, each in a block of its own. -/
structure Two (w : World) (B1 B2 : Nat) (x y : Value) (w' : World) : Prop where
  only : Only Nil w w'
  new1 : w.heap.size ≤ B1
  new2 : w.heap.size ≤ B2
  ne : B1 ≠ B2
  h1 : w'.heap[B1]? = some (.cells #[x] 25 (0, 0))
  h2 : w'.heap[B2]? = some (.cells #[y] 27 (0, 0))
theorem two_new (w : World) : Two w w.heap.size (w.heap.size + 1) (.slice none 0 0) .nilIface ((w.alloc (.cells #[.slice none 0 0] 25)).alloc (.cells #[.nilIface] 27)) := by
  have hs : (w.alloc (.cells #[.slice none 0 0] 25)).heap.size = w.heap.size + 1 := by simp
  refine ⟨((Only.refl Nil w).alloc _).alloc _, Nat.le_refl _, by omega, by omega, ?_, ?_⟩
  · rw [Below.heap_alloc _ _ _ (by rw [hs]; omega)]; exact heap_new w _
  · rw [← hs]; exact heap_new _ _
theorem Two.keep {w w1 w2 : World} {B1 B2 : Nat} {x y : Value} (h : Two w B1 B2 x y w1) (o : Only Nil w1 w2) : Two w B1 B2 x y w2 :=
  ⟨h.only.trans o, h.new1, h.new2, h.ne, (o.block B1 (lt_of_block h.h1) (fun q => q.elim)).trans h.h1, (o.block B2 (lt_of_block h.h2) (fun q => q.elim)).trans h.h2⟩
theorem Two.at_ {w w1 w2 : World} {B1 B2 R : Nat} {x y : Value} (h : Two w B1 B2 x y w1) (o : Only (At R) w1 w2) (hR : w.heap.size ≤ R) (n1 : B1 ≠ R) (n2 : B2 ≠ R) : Two w B1 B2 x y w2 :=
  ⟨h.only.then o (fun q hq hlt => by unfold At at hq; omega), h.new1, h.new2, h.ne, (o.block B1 (lt_of_block h.h1) (fun q => n1 q)).trans h.h1, (o.block B2 (lt_of_block h.h2) (fun q => n2 q)).trans h.h2⟩
theorem Two.set1 {w w1 : World} {B1 B2 : Nat} {x y : Value} (h : Two w B1 B2 x y w1) (v : Value) : Two w B1 B2 v y (w1.setCell ⟨B1, 0, none⟩ v) := by
  have o : Only (At B1) w1 (w1.setCell ⟨B1, 0, none⟩ v) := (Only.refl (At B1) w1).setCell (p := ⟨B1, 0, none⟩) rfl _
  exact ⟨h.only.then o (fun q hq hlt => by have := h.new1; unfold At at hq; omega), h.new1, h.new2, h.ne, heap_setCell_self (o := 0) v h.h1, (o.block B2 (lt_of_block h.h2) (fun q => h.ne q.symm)).trans h.h2⟩
theorem Two.set2 {w w1 : World} {B1 B2 : Nat} {x y : Value} (h : Two w B1 B2 x y w1) (v : Value) : Two w B1 B2 x v (w1.setCell ⟨B2, 0, none⟩ v) := by
  have o : Only (At B2) w1 (w1.setCell ⟨B2, 0, none⟩ v) := (Only.refl (At B2) w1).setCell (p := ⟨B2, 0, none⟩) rfl _
  exact ⟨h.only.then o (fun q hq hlt => by have := h.new2; unfold At at hq; omega), h.new1, h.new2, h.ne, (o.block B1 (lt_of_block h.h1) (fun q => h.ne q)).trans h.h1, heap_setCell_self (o := 0) v h.h2⟩
theorem Two.c1 {w w1 : World} {B1 B2 : Nat} {x y : Value} (h : Two w B1 B2 x y w1) : w1.cell? ⟨B1, 0, none⟩ = some x := by simp [World.cell?, h.h1]
theorem Two.c2 {w w1 : World} {B1 B2 : Nat} {x y : Value} (h : Two w B1 B2 x y w1) : w1.cell? ⟨B2, 0, none⟩ = some y := by simp [World.cell?, h.h2]
theorem Two.f1 {w w1 : World} {B1 B2 : Nat} {x y : Value} (h : Two w B1 B2 x y w1) : w1.frozen? ⟨B1, 0, none⟩ = false := frozen_blk h.h1 0
theorem Two.f2 {w w1 : World} {B1 B2 : Nat} {x y : Value} (h : Two w B1 B2 x y w1) : w1.frozen? ⟨B2, 0, none⟩ = false := frozen_blk h.h2 0
/-- A reader over a row of tokens. -/
theorem reader_new {w : World} {a : Option Addr} {n c : Nat} {X : Tks} (N : Nat) (h : w.ownsRow 0 67 4 (.slice a n c) n (pls X)) (hn : X.length = n) (hX : X.length ≤ 20000) :
    Rd (w.alloc (.cells #[.slice a n c, .int .i64 N] 57)) w.heap.size N X := by
  have o : Only Nil w (w.alloc (.cells #[.slice a n c, .int .i64 N] 57)) := (Only.refl Nil w).alloc _
  have hr : RIn w a X := own_rin h
  have hc : n ≤ c := by
    rcases h.2 with ⟨h1, h2⟩ | ⟨b, c', cur, h1, _, _, h2, _⟩
    · omega
    · simp only [Value.slice.injEq] at h1; omega
  refine ⟨a, n, c, heap_new w _, hn, ⟨hc, by omega⟩, fun i hi => ?_⟩
  obtain ⟨b, ha, hlt, hcs⟩ := hr i hi
  refine ⟨b, 0, ha, Nat.lt_of_lt_of_le hlt o.size, hlt, fun j hj => ?_⟩
  obtain ⟨c1, c2, c3, c4⟩ := hcs j hj
  rw [Nat.zero_add, Nat.zero_add, Nat.zero_add, Nat.zero_add]
  exact ⟨only_cell0 o c1, only_cell0 o c2, only_cell0 o c3, only_cell0 o c4⟩

set_option maxRecDepth 100000 in
set_option maxHeartbeats 4000000 in
theorem prog_ok_any (l : List UInt8) (w : World) (hl : l.length ≤ 140737488355328) (E : Env w) (P : List Kd) (h : prog l = .ok P) :
    Calls Tryz.prog 5 #[.string (bs l)] w fun e w' => ∃ sl, e = .returned (.tuple #[.agg #[sl], .nilIface]) ∧ MKds w' sl P ∧ Only Nil w w' := by
  obtain ⟨h0, r, hp⟩ : (whole l).2.1 = 0 ∧ ∃ r, pProg (whole l).1 = .ok P r := by
    unfold prog at h
    split at h
    · rename_i h0
      refine ⟨h0, ?_⟩
      cases hq : pProg (whole l).1 with
      | ok P' r => rw [hq] at h; cases h; exact ⟨r, rfl⟩
      | bad r => rw [hq] at h; cases h
    · cases h
  have hX := whole_len l
  have HA := Lib.hid (fun (w : World) (E : Env w) => all_ok l w hl E h0 _ rfl _ rfl)
  have hz : (bs l).size = l.length := bs_size l
  have HE := Lib.hid E
  have HP := Lib.hid hp
  have HX := Lib.hid hX
  clear h h0 E hp hX
  generalize (whole l).1 = X at *
  have hmf := run_mf
  have H0 := two_new w
  obtain ⟨wB, hwB⟩ : ∃ wB, wB = (w.alloc (.cells #[.slice none 0 0] 25)).alloc (.cells #[.nilIface] 27) := ⟨_, rfl⟩
  rw [← hwB] at H0
  have HT := Lib.hid H0
  clear H0
  go_enter_defers Tryz.func5, Tryz.ntmps5
  go_upto_region 1 with (fail)
  rw [← hwB]; clear hwB
  generalize hB2 : w.heap.size + 1 = B2 at *
  generalize hB1 : w.heap.size = B1 at *
  have HB1 := Lib.hid hB1
  clear hB1 hB2
  go_wp2_with fail
  refine (HA.out wB (HE.out.keep HT.out.only)).mono ?_
  rintro e w1 ⟨a, c, rfl, R1⟩
  have T1 := HT.out.keep R1.only
  have c2 := T1.c2
  have f2 := T1.f2
  have T2 := Lib.hid (T1.set2 .nilIface)
  have ow := Lib.hid (own_keepT R1.row ((Only.refl (At B2) w1).setCell (p := ⟨B2, 0, none⟩) rfl .nilIface) (ofT_at T1.h2) (by decide))
  clear T1 R1 HT
  generalize hn : X.length = n at *
  have HN := Lib.hid hn
  clear hn
  go_upto_region 2 with (fail)
  generalize w1.setCell ⟨B2, 0, none⟩ .nilIface = W2 at *
  have c2 := T2.out.c2
  have HR := Lib.hid (reader_new l.length ow.out HN.out (by rw [HN.out]; have := HX.out; omega))
  have TR := Lib.hid (T2.out.keep ((Only.refl Nil W2).alloc (.cells #[.slice a n c, .int .i64 l.length] 57)))
  have nR1 : B1 ≠ W2.heap.size := by have := lt_of_block T2.out.h1; omega
  have nR2 : B2 ≠ W2.heap.size := by have := lt_of_block T2.out.h2; omega
  have hRw : w.heap.size ≤ W2.heap.size := T2.out.only.size
  have HRW := Lib.hid hRw
  clear hRw
  go_wp2_with fail
  refine (program_any HR.out).mono ?_
  rintro e w4 k4
  rw [HP.out] at k4
  obtain ⟨⟨v, rfl, sl, rfl, hv⟩, R4, o4⟩ := k4
  obtain ⟨sa, sn, sc, rfl⟩ := mkds_slice hv
  have T4 := TR.out.at_ o4 HRW.out nR1 nR2
  have d1 := T4.c1
  have d2 := T4.c2
  have g1 := T4.f1
  have g2 := T4.f2
  have T5 := T4.set1 (.slice sa sn sc)
  have T6 := Lib.hid (T5.set2 .nilIface)
  have M5 := hv.keep ((Only.refl (At B1) w4).setCell (p := ⟨B1, 0, none⟩) rfl (.slice sa sn sc)) (ofT_at T4.h1) (by decide) (by decide) (by decide) (by decide) (by decide)
  have M6 := Lib.hid (M5.keep ((Only.refl (At B2) _).setCell (p := ⟨B2, 0, none⟩) rfl .nilIface) (ofT_at T5.h2) (by decide) (by decide) (by decide) (by decide) (by decide))
  have hne := T4.ne
  clear T4 T5 M5 R4 o4 hv
  go_wp2
  refine leaves_cons (f := 12) (args := #[.pointer (some ⟨B1, 0, none⟩), .pointer (some ⟨B2, 0, none⟩)]) (by simp) (by simp [go_sem]) ?_
  refine (catch_none ⟨B1, 0, none⟩ ⟨B2, 0, none⟩ _).mono ?_
  rintro e u' w'' ⟨rfl, rfl, rfl⟩
  exact ⟨_, results_cc rfl _ _ B1 B2 [.slice sa sn sc] .nilIface Tryz.isAgg25 Tryz.sizeOf25 Tryz.isAgg27 rfl rfl T6.out.h1 T6.out.h2, _, rfl, M6.out, T6.out.only⟩

theorem Two.both {w w1 w2 : World} {B1 B2 : Nat} {x y x' y' : Value} (h : Two w B1 B2 x y w1) (o : Only (At2 B1 B2) w1 w2) (h1 : w2.heap[B1]? = some (.cells #[x'] 25 (0, 0))) (h2 : w2.heap[B2]? = some (.cells #[y'] 27 (0, 0))) : Two w B1 B2 x' y' w2 :=
  ⟨h.only.then o (fun q hq hlt => by have := h.new1; have := h.new2; unfold At2 at hq; omega), h.new1, h.new2, h.ne, h1, h2⟩
set_option maxRecDepth 100000 in
set_option maxHeartbeats 4000000 in
theorem prog_bad_parse (l : List UInt8) (w : World) (hl : l.length ≤ 140737488355328) (E : Env w) (h0 : (whole l).2.1 = 0) (r : Tks) (hp : pProg (whole l).1 = .bad r) :
    Calls Tryz.prog 5 #[.string (bs l)] w fun e w' => ∃ b, e = .returned (.tuple #[.agg #[.slice none 0 0], .iface 54 (.pointer (some ⟨b, 0, none⟩))]) ∧ Ft w' b (flt l.length r).1 (flt l.length r).2 ∧ Only Nil w w' := by
  have hX := whole_len l
  have HA := Lib.hid (fun (w : World) (E : Env w) => all_ok l w hl E h0 _ rfl _ rfl)
  have hz : (bs l).size = l.length := bs_size l
  have HE := Lib.hid E
  have HP := Lib.hid hp
  have HX := Lib.hid hX
  clear h0 E hp hX
  generalize (whole l).1 = X at *
  have hmf := run_mf
  have H0 := two_new w
  obtain ⟨wB, hwB⟩ : ∃ wB, wB = (w.alloc (.cells #[.slice none 0 0] 25)).alloc (.cells #[.nilIface] 27) := ⟨_, rfl⟩
  rw [← hwB] at H0
  have HT := Lib.hid H0
  clear H0
  go_enter_defers Tryz.func5, Tryz.ntmps5
  go_upto_region 1 with (fail)
  rw [← hwB]; clear hwB
  generalize hB2 : w.heap.size + 1 = B2 at *
  generalize hB1 : w.heap.size = B1 at *
  have HB1 := Lib.hid hB1
  clear hB1 hB2
  go_wp2_with fail
  refine (HA.out wB (HE.out.keep HT.out.only)).mono ?_
  rintro e w1 ⟨a, c, rfl, R1⟩
  have T1 := HT.out.keep R1.only
  have c2 := T1.c2
  have f2 := T1.f2
  have T2 := Lib.hid (T1.set2 .nilIface)
  have ow := Lib.hid (own_keepT R1.row ((Only.refl (At B2) w1).setCell (p := ⟨B2, 0, none⟩) rfl .nilIface) (ofT_at T1.h2) (by decide))
  clear T1 R1 HT
  generalize hn : X.length = n at *
  have HN := Lib.hid hn
  clear hn
  go_upto_region 2 with (fail)
  generalize w1.setCell ⟨B2, 0, none⟩ .nilIface = W2 at *
  have c2 := T2.out.c2
  have HR := Lib.hid (reader_new l.length ow.out HN.out (by rw [HN.out]; have := HX.out; omega))
  have TR := Lib.hid (T2.out.keep ((Only.refl Nil W2).alloc (.cells #[.slice a n c, .int .i64 l.length] 57)))
  have nR1 : B1 ≠ W2.heap.size := by have := lt_of_block T2.out.h1; omega
  have nR2 : B2 ≠ W2.heap.size := by have := lt_of_block T2.out.h2; omega
  have hRw : w.heap.size ≤ W2.heap.size := T2.out.only.size
  have HRW := Lib.hid hRw
  clear hRw
  go_wp2_with fail
  refine (program_any HR.out).mono ?_
  rintro e w4 k4
  rw [HP.out] at k4
  obtain ⟨⟨b, rfl, hc, hq⟩, o4⟩ := k4
  have T4 := Lib.hid (TR.out.at_ o4 HRW.out nR1 nR2)
  go_wp2
  refine leaves_cons (f := 12) (args := #[.pointer (some ⟨B1, 0, none⟩), .pointer (some ⟨B2, 0, none⟩)]) (by simp) (by simp [go_sem]) ?_
  refine (catch_some B1 B2 b _ _ [] _ T4.out.h1 T4.out.h2 T4.out.ne).mono ?_
  rintro e u' w'' ⟨rfl, rfl, h1, h2, o5⟩
  have T6 := T4.out.both o5 h1 h2
  have nb : ∀ q, w4.cell? ⟨q, 0, none⟩ = some (.int .i64 (flt l.length r).1) → ¬ At2 B1 B2 q := fun q h e => by
    rcases e with rfl | rfl
    · rw [T4.out.c1] at h; cases h
    · rw [T4.out.c2] at h; cases h
  exact ⟨_, results_cc rfl _ _ B1 B2 [.slice none 0 0] (.iface 54 (.pointer (some ⟨b, 0, none⟩))) Tryz.isAgg25 Tryz.sizeOf25 Tryz.isAgg27 rfl rfl T6.h1 T6.h2, b, rfl, ⟨only_cellS o5 (nb b hc) hc, only_cellS o5 (nb b hc) hq⟩, T6.only⟩

set_option maxRecDepth 100000 in
set_option maxHeartbeats 4000000 in
theorem prog_bad_lex (l : List UInt8) (w : World) (hl : l.length ≤ 140737488355328) (E : Env w) (h0 : (whole l).2.1 ≠ 0) :
    Calls Tryz.prog 5 #[.string (bs l)] w fun e w' => ∃ b, e = .returned (.tuple #[.agg #[.slice none 0 0], .iface 54 (.pointer (some ⟨b, 0, none⟩))]) ∧ Ft w' b (whole l).2.1 (whole l).2.2 ∧ Only Nil w w' := by
  have HA := Lib.hid (fun (w : World) (E : Env w) => all_err l w hl E _ _ rfl h0)
  have hz : (bs l).size = l.length := bs_size l
  have HE := Lib.hid E
  clear h0 E
  generalize (whole l).2.1 = z at *
  generalize (whole l).2.2 = q at *
  have hmf := run_mf
  have H0 := two_new w
  obtain ⟨wB, hwB⟩ : ∃ wB, wB = (w.alloc (.cells #[.slice none 0 0] 25)).alloc (.cells #[.nilIface] 27) := ⟨_, rfl⟩
  rw [← hwB] at H0
  have HT := Lib.hid H0
  clear H0
  go_enter_defers Tryz.func5, Tryz.ntmps5
  go_upto_region 1 with (fail)
  rw [← hwB]; clear hwB
  generalize hB2 : w.heap.size + 1 = B2 at *
  generalize hB1 : w.heap.size = B1 at *
  have HB1 := Lib.hid hB1
  clear hB1 hB2
  go_wp2_with fail
  refine (HA.out wB (HE.out.keep HT.out.only)).mono ?_
  rintro e w1 ⟨b, rfl, F1, o1⟩
  have T1 := HT.out.keep o1
  have c2 := T1.c2
  have f2 := T1.f2
  have T2 := Lib.hid (T1.set2 (.iface 54 (.pointer (some ⟨b, 0, none⟩))))
  have nb : ¬ At B2 b := fun e => by
    unfold At at e
    subst e
    have := F1.code
    rw [c2] at this; cases this
  have F2 := Lib.hid (show Ft (w1.setCell ⟨B2, 0, none⟩ (.iface 54 (.pointer (some ⟨b, 0, none⟩)))) b z q from
    ⟨only_cellS ((Only.refl (At B2) w1).setCell (p := ⟨B2, 0, none⟩) rfl _) nb F1.code, only_cellS ((Only.refl (At B2) w1).setCell (p := ⟨B2, 0, none⟩) rfl _) nb F1.place⟩)
  clear T1 HT F1 o1 nb
  go_upto_region 2 with (fail)
  generalize w1.setCell ⟨B2, 0, none⟩ (.iface 54 (.pointer (some ⟨b, 0, none⟩))) = W2 at *
  have c2 := T2.out.c2
  have c1 := T2.out.c1
  have g1 := T2.out.f1
  have g2 := T2.out.f2
  have l1 := lt_of_block T2.out.h1
  have l2 := lt_of_block T2.out.h2
  have hne := T2.out.ne
  have o6 : Only (At2 B1 B2) W2 ((W2.setCell ⟨B1, 0, none⟩ (.slice none 0 0)).setCell ⟨B2, 0, none⟩ (.iface 54 (.pointer (some ⟨b, 0, none⟩)))).drew := (((Only.refl (At2 B1 B2) W2).setCell (p := ⟨B1, 0, none⟩) (Or.inl rfl) _).setCell (p := ⟨B2, 0, none⟩) (Or.inr rfl) _).drew
  have nb : ¬ At2 B1 B2 b := fun e => by
    have h := F2.out.code
    rcases e with e | e
    · rw [e, c1] at h; cases h
    · rw [e, c2] at h; cases h
  have T6 := Lib.hid (((T2.out.set1 (.slice none 0 0)).set2 (.iface 54 (.pointer (some ⟨b, 0, none⟩)))).keep ((Only.refl Nil _).drew))
  have F6 := Lib.hid (show Ft ((W2.setCell ⟨B1, 0, none⟩ (.slice none 0 0)).setCell ⟨B2, 0, none⟩ (.iface 54 (.pointer (some ⟨b, 0, none⟩)))).drew b z q from ⟨only_cellS o6 nb F2.out.code, only_cellS o6 nb F2.out.place⟩)
  clear o6 nb
  go_upto_region 3 with (fail)
  refine wp_region_noPanic ?_
  go_region_with (fail)
  all_goals
    refine NoPanic.normal ?_
    generalize ((W2.setCell ⟨B1, 0, none⟩ (.slice none 0 0)).setCell ⟨B2, 0, none⟩ (.iface 54 (.pointer (some ⟨b, 0, none⟩)))).drew = W7 at *
    go_wp2
    exact ⟨_, results_cc rfl _ _ B1 B2 [.slice none 0 0] (.iface 54 (.pointer (some ⟨b, 0, none⟩))) Tryz.isAgg25 Tryz.sizeOf25 Tryz.isAgg27 rfl rfl T6.out.h1 T6.out.h2, b, rfl, F6.out, T6.out.only⟩
theorem prog_bad_any (l : List UInt8) (w : World) (hl : l.length ≤ 140737488355328) (E : Env w) (z q : Nat) (h : prog l = .bad z q) :
    Calls Tryz.prog 5 #[.string (bs l)] w fun e w' => ∃ b, e = .returned (.tuple #[.agg #[.slice none 0 0], .iface 54 (.pointer (some ⟨b, 0, none⟩))]) ∧ Ft w' b z q ∧ Only Nil w w' := by
  unfold prog at h
  split at h
  · rename_i h0
    cases hq : pProg (whole l).1 with
    | ok P' r => rw [hq] at h; cases h
    | bad r => rw [hq] at h; cases h; exact prog_bad_parse l w hl E h0 r hq
  · rename_i h0
    cases h
    exact prog_bad_lex l w hl E h0
end Go.Proofs.YtnkokonkbklelaaGreatDoor.Ps

/- parse: a text cut off, in plain words. -/
set_option linter.unusedVariables false
namespace Go.Proofs.YtnkokonkbklelaaGreatDoor.Ps
open Go.RowKit Go.Proofs.YtnkokonkbklelaaGreatDoor Lx

theorem takeWhile_cut (p : UInt8 → Bool) (l : List UInt8) (j : Nat) : (l.take j).takeWhile p = (l.takeWhile p).take j := by
  induction l generalizing j with
  | nil => simp
  | cons c r ih =>
    cases j with
    | zero => simp
    | succ j =>
      rw [List.take_succ_cons, List.takeWhile_cons, List.takeWhile_cons]
      split
      · rw [List.take_succ_cons, ih]
      · simp
theorem sk_cut_nil {b : Bool} {l : List UInt8} (h : sk b l = []) (j : Nat) : sk b (l.take j) = [] := by
  induction l generalizing b j with
  | nil => rw [List.take_nil]; exact h
  | cons d t ih =>
    cases j with
    | zero => cases b <;> rfl
    | succ j =>
      rw [List.take_succ_cons]
      cases b
      · rw [sk_f] at h ⊢
        split at h
        · rename_i h1; rw [if_pos h1]; exact ih h j
        · rename_i h1
          rw [if_neg h1]
          split at h
          · rename_i h2; rw [if_pos h2]; exact ih h j
          · cases h
      · rw [sk_t] at h ⊢
        split at h
        · rename_i h1; rw [if_pos h1]; exact ih h j
        · rename_i h1; rw [if_neg h1]; exact ih h j
theorem sk_cut {b : Bool} {l : List UInt8} {c : UInt8} {r : List UInt8} (h : sk b l = c :: r) (j : Nat) :
    (j + r.length < l.length → sk b (l.take j) = []) ∧ (l.length ≤ j + r.length → sk b (l.take j) = c :: r.take (j + r.length - l.length)) := by
  induction l generalizing b j with
  | nil => cases b <;> simp [sk] at h
  | cons d t ih =>
    have hle : sk b (d :: t) = c :: r → r.length + 1 ≤ t.length + 1 := fun h => by
      have := sk_le b (d :: t); rw [h] at this; simpa using this
    have hl := hle h
    cases j with
    | zero =>
      refine ⟨fun _ => by cases b <;> rfl, fun h2 => ?_⟩
      simp at h2; omega
    | succ j =>
      rw [List.take_succ_cons]
      have go : ∀ b', sk b' t = c :: r → ((j + 1 + r.length < (d :: t).length → sk b' (t.take j) = []) ∧ ((d :: t).length ≤ j + 1 + r.length → sk b' (t.take j) = c :: r.take (j + 1 + r.length - (d :: t).length))) := fun b' h' => by
        obtain ⟨i1, i2⟩ := ih h' j
        refine ⟨fun q => i1 (by simp at q; omega), fun q => ?_⟩
        rw [i2 (by simp at q; omega)]
        congr 2
        simp; omega
      cases b
      · rw [sk_f] at h
        rw [sk_f]
        split at h
        · rename_i h1; rw [if_pos h1]; exact go _ h
        · rename_i h1
          rw [if_neg h1]
          split at h
          · rename_i h2; rw [if_pos h2]; exact go _ h
          · rename_i h2
            rw [if_neg h2]
            cases h
            refine ⟨fun q => by simp at q; omega, fun q => ?_⟩
            congr 2
            simp only [List.length_cons]; omega
      · rw [sk_t] at h
        rw [sk_t]
        split at h
        · rename_i h1; rw [if_pos h1]; exact go _ h
        · rename_i h1; rw [if_neg h1]; exact go _ h
theorem vl_cut (l : List UInt8) (j a : Nat) : vl a (l.take j) ≤ vl a l := by
  induction l generalizing j a with
  | nil => simp
  | cons c r ih =>
    cases j with
    | zero => rw [List.take_zero]; exact vl_ge (c :: r) a
    | succ j => rw [List.take_succ_cons, vl_c, vl_c]; exact ih j _
theorem all_cut {l : List UInt8} (h : l.all isDi = true) (j : Nat) : (l.take j).all isDi = true := by
  rw [List.all_eq_true] at h ⊢
  exact fun x hx => h x (List.mem_of_mem_take hx)
/-- A token cut off behind j bytes. -/
theorem tok_cut {c : UInt8} {r : List UInt8} {t : Tok} (h : tok (c :: r) = (0, t)) (i : Nat) (hi : i ≤ r.length) :
    (t.w.length ≤ i + 1 → tok (c :: r.take i) = (0, t)) ∧ (i + 1 < t.w.length → ∃ t', tok (c :: r.take i) = (0, t') ∧ t'.w = c :: r.take i) := by
  have e : (c :: r.take i).takeWhile isWd = ((c :: r).takeWhile isWd).take (i + 1) := by rw [← List.take_succ_cons, takeWhile_cut]
  have hp : (c :: r).takeWhile isWd <+: c :: r := List.takeWhile_prefix isWd
  rw [tok_c] at h ⊢
  rw [e]
  by_cases hl : isLe c = true
  · rw [if_pos hl] at h ⊢
    split at h
    · simp at h
    · rename_i h16
      obtain rfl : (⟨1, (c :: r).takeWhile isWd, 0⟩ : Tok) = t := (Prod.mk.inj h).2
      rw [if_neg (by rw [List.length_take]; omega)]
      refine ⟨fun q => by rw [List.take_of_length_le q], fun q => ⟨_, rfl, ?_⟩⟩
      have hq : (i + 1) < ((c :: r).takeWhile isWd).length := q
      obtain ⟨R, hR⟩ := hp
      show ((c :: r).takeWhile isWd).take (i + 1) = c :: r.take i
      have : (c :: r).take (i + 1) = ((c :: r).takeWhile isWd).take (i + 1) := by
        conv => lhs; rw [← hR]
        rw [List.take_append_of_le_length (by omega)]
      rw [← this, List.take_succ_cons]
  · rw [if_neg hl] at h ⊢
    by_cases hd : isDi c = true
    · rw [if_pos hd] at h ⊢
      split at h
      · rename_i h3
        obtain rfl : (⟨2, (c :: r).takeWhile isWd, vl 0 ((c :: r).takeWhile isWd)⟩ : Tok) = t := (Prod.mk.inj h).2
        simp only [Bool.and_eq_true, decide_eq_true_eq] at h3
        have h4 : ((((c :: r).takeWhile isWd).take (i + 1)).all isDi && decide (vl 0 (((c :: r).takeWhile isWd).take (i + 1)) ≤ 65535)) = true := by
          rw [Bool.and_eq_true, decide_eq_true_eq]
          exact ⟨all_cut h3.1 _, Nat.le_trans (vl_cut _ _ _) h3.2⟩
        rw [if_pos h4]
        refine ⟨fun q => by rw [List.take_of_length_le q], fun q => ⟨_, rfl, ?_⟩⟩
        have hq : (i + 1) < ((c :: r).takeWhile isWd).length := q
        obtain ⟨R, hR⟩ := hp
        show ((c :: r).takeWhile isWd).take (i + 1) = c :: r.take i
        have : (c :: r).take (i + 1) = ((c :: r).takeWhile isWd).take (i + 1) := by
          conv => lhs; rw [← hR]
          rw [List.take_append_of_le_length (by omega)]
        rw [← this, List.take_succ_cons]
      · simp at h
    · rw [if_neg hd] at h ⊢
      split at h
      · rename_i h3
        obtain rfl : (⟨3, [c], 0⟩ : Tok) = t := (Prod.mk.inj h).2
        rw [if_pos h3]
        exact ⟨fun _ => rfl, fun q => by simp at q⟩
      · simp at h

/-- The tokens of a text cut off. -/
theorem LX_cut (n N : Nat) (l : List UInt8) (hn : l.length ≤ n) (j : Nat) (hj : j ≤ l.length) (hN : l.length ≤ N) (h : (LX N l).2.1 = 0) :
    (LX (N - (l.length - j)) (l.take j)).2.1 = 0 ∧ ((LX (N - (l.length - j)) (l.take j)).1 <+: (LX N l).1 ∨
      ∃ X1 y, (LX (N - (l.length - j)) (l.take j)).1 = X1 ++ [y] ∧ X1 <+: (LX N l).1 ∧ y.2 + y.1.w.length = N - (l.length - j)) := by
  induction n generalizing l j with
  | zero =>
    have : l = [] := List.eq_nil_of_length_eq_zero (by omega)
    subst this
    rw [List.take_nil, LX_nil (l := []) rfl]
    exact ⟨rfl, Or.inl (List.nil_prefix)⟩
  | succ n ih =>
    cases hs : sk false l with
    | nil =>
      rw [LX_nil (sk_cut_nil hs j)]
      exact ⟨rfl, Or.inl (List.nil_prefix)⟩
    | cons c r =>
      have hl1 := sk_le false l
      rw [hs] at hl1
      simp only [List.length_cons] at hl1
      obtain ⟨s1, s2⟩ := sk_cut hs j
      by_cases h0 : (tok (c :: r)).1 = 0
      · rw [LX_tok hs h0] at h ⊢
        obtain ⟨hp, hpre⟩ := tok_pos h0
        have hpl := hpre.length_le
        simp only [List.length_cons] at hpl
        rcases Nat.lt_or_ge (j + r.length) l.length with hc | hc
        · rw [LX_nil (s1 hc)]
          exact ⟨rfl, Or.inl (List.nil_prefix)⟩
        · have hs' := s2 hc
          have hi : j + r.length - l.length ≤ r.length := by omega
          obtain ⟨u1, u2⟩ := tok_cut (t := (tok (c :: r)).2) (by rw [← h0]) (j + r.length - l.length) hi
          rcases Nat.lt_or_ge (j + r.length - l.length + 1) (tok (c :: r)).2.w.length with hq | hq
          · obtain ⟨t', ht', hw'⟩ := u2 hq
            have e0 : (tok (c :: r.take (j + r.length - l.length))).1 = 0 := by rw [ht']
            rw [LX_tok hs' e0, ht', hw', List.drop_length, LX_nil (l := []) rfl]
            refine ⟨rfl, Or.inr ⟨[], _, rfl, List.nil_prefix, ?_⟩⟩
            dsimp only
            rw [hw']
            simp only [List.length_cons, List.length_take]
            omega
          · have ht' := u1 hq
            have e0 : (tok (c :: r.take (j + r.length - l.length))).1 = 0 := by rw [ht']
            rw [LX_tok hs' e0, ht']
            have ed : (c :: r.take (j + r.length - l.length)).drop (tok (c :: r)).2.w.length = ((c :: r).drop (tok (c :: r)).2.w.length).take (j + r.length - l.length + 1 - (tok (c :: r)).2.w.length) := by
              rw [← List.take_succ_cons, List.drop_take]
            have hlen : ((c :: r).drop (tok (c :: r)).2.w.length).length = r.length + 1 - (tok (c :: r)).2.w.length := by simp
            have eN : N - (l.length - j) = N - (((c :: r).drop (tok (c :: r)).2.w.length).length - (j + r.length - l.length + 1 - (tok (c :: r)).2.w.length)) := by rw [hlen]; omega
            have eP : N - (l.length - j) - ((r.take (j + r.length - l.length)).length + 1) = N - (r.length + 1) := by rw [List.length_take]; omega
            obtain ⟨i1, i2⟩ := ih ((c :: r).drop (tok (c :: r)).2.w.length) (by rw [hlen]; omega) (j + r.length - l.length + 1 - (tok (c :: r)).2.w.length) (by rw [hlen]; omega) (by rw [hlen]; omega) h
            rw [eP, ed, eN]
            dsimp only
            refine ⟨i1, ?_⟩
            rcases i2 with i2 | ⟨X1, y, i2, i3, i4⟩
            · exact Or.inl (List.cons_prefix_cons.2 ⟨rfl, i2⟩)
            · exact Or.inr ⟨_ :: X1, y, by rw [i2]; rfl, List.cons_prefix_cons.2 ⟨rfl, i3⟩, i4⟩
      · rw [LX_bad hs h0] at h
        exact absurd h h0

/-- What is told of a text that is read and cut off. -/
theorem prog_cut {m : List UInt8} {P : List Kd} (h : prog m = .ok P) (k : Nat) (hk : k ≤ m.length) :
    (∃ P', prog (m.take k) = .ok P') ∨ prog (m.take k) = .bad 31 k ∨
      ∃ X1 y, (whole (m.take k)).2.1 = 0 ∧ (whole (m.take k)).1 = X1 ++ [y] ∧ prog (m.take k) = .bad 30 y.2 ∧ y.2 + y.1.w.length = k := by
  have h16 : m.length ≤ 16384 := by
    rcases Nat.lt_or_ge 16384 m.length with hh | hh
    · unfold prog whole at h; rw [if_pos hh] at h; cases h
    · exact hh
  have hw : whole m = LX m.length m := if_neg (by omega)
  have hw' : whole (m.take k) = LX k (m.take k) := by
    unfold whole
    rw [if_neg (by rw [List.length_take]; omega), List.length_take, Nat.min_eq_left hk]
  obtain ⟨h0, r, hp⟩ : (LX m.length m).2.1 = 0 ∧ ∃ r, pProg (LX m.length m).1 = .ok P r := by
    unfold prog at h
    rw [hw] at h
    split at h
    · rename_i h0
      refine ⟨h0, ?_⟩
      cases hq : pProg (LX m.length m).1 with
      | ok P' r => rw [hq] at h; cases h; exact ⟨r, rfl⟩
      | bad r => rw [hq] at h; cases h
    · cases h
  have hr := pProg_ok _ _ (Nat.le_refl _) P r hp
  subst hr
  obtain ⟨c1, c2⟩ := LX_cut m.length m.length m (Nat.le_refl _) k hk (Nat.le_refl _) h0
  have eN : m.length - (m.length - k) = k := by omega
  rw [eN] at c1 c2
  have hpr : ∀ X1, X1 <+: (LX m.length m).1 → (pProg X1).rest = [] := fun X1 hx => by
    obtain ⟨U, hU⟩ := hx
    by_cases hz : (pProg X1).rest = []
    · exact hz
    · have := (pProg_loc X1 U).1 hz
      rw [hU, hp] at this
      cases hq : pProg X1 with
      | ok a s =>
        rw [hq] at this hz
        injection this with _ e
        have := List.append_eq_nil_iff.1 e.symm
        exact absurd this.1 hz
      | bad s => rw [hq] at this; cases this
  have hlen : (m.take k).length = k := by rw [List.length_take]; omega
  have hprog : prog (m.take k) = (match pProg (LX k (m.take k)).1 with | .ok P _ => .ok P | .bad r => .bad (flt k r).1 (flt k r).2) := by
    unfold prog
    rw [hw', if_pos c1, hlen]
    try (cases pProg (LX k (m.take k)).1 <;> rfl)
  rw [hprog, hw']
  rcases c2 with c2 | ⟨X1, y, c2, c3, c4⟩
  · have hz := hpr _ c2
    cases hq : pProg (LX k (m.take k)).1 with
    | ok a s => exact Or.inl ⟨a, rfl⟩
    | bad s =>
      rw [hq] at hz
      have : s = [] := hz
      subst this
      exact Or.inr (Or.inl rfl)
  · have hz := hpr _ c3
    have hsuf := (pProg_loc X1 [y]).2 hz
    rw [c2]
    cases hq : pProg (X1 ++ [y]) with
    | ok a s => exact Or.inl ⟨a, rfl⟩
    | bad s =>
      rw [hq] at hsuf
      have hs : s <:+ [y] := hsuf
      rcases List.suffix_cons_iff.1 hs with rfl | hs
      · exact Or.inr (Or.inr ⟨X1, y, c1, rfl, rfl, c4⟩)
      · have : s = [] := List.suffix_nil.1 hs
        subst this
        exact Or.inr (Or.inl rfl)
end Go.Proofs.YtnkokonkbklelaaGreatDoor.Ps

/- parse in plain words: two texts, one behind the other. -/
set_option linter.unusedVariables false
namespace Go.Proofs.YtnkokonkbklelaaGreatDoor.Ps
open Go.RowKit Go.Proofs.YtnkokonkbklelaaGreatDoor Lx

def jtxt (a b : Wd) : Wd := a ++ 10 :: b
theorem jtxt_len (a b : Wd) : (jtxt a b).length = a.length + (b.length + 1) := by simp [jtxt]
theorem LX_app2 (R : Wd) (N k : Nat) (m : Wd) (hk : m.length ≤ k) : 
    (LX (N + (R.length + 1)) (m ++ 10 :: R)).2 = (if (LX N m).2.1 = 0 then (LX (N + (R.length + 1)) (10 :: R)).2 else (LX N m).2) := by
  induction k generalizing m with
  | zero =>
    have : m = [] := List.eq_nil_of_length_eq_zero (by omega)
    subst this
    rw [LX_nil (l := []) rfl]
    simp
  | succ k ih =>
    cases hs : sk false m with
    | nil =>
      rw [LX_nil hs, LX_sk _ _ (10 :: R) (sk_app_none hs R)]
      simp
    | cons c r =>
      have hs' := sk_app_some hs (10 :: R)
      have ht := tok_app c r (stop_ten R)
      have hN : N + (R.length + 1) - ((r ++ 10 :: R).length + 1) = N - (r.length + 1) := by simp; omega
      by_cases h0 : (tok (c :: r)).1 = 0
      · have hl1 := sk_le false m
        rw [hs] at hl1
        obtain ⟨hp, hpre⟩ := tok_pos h0
        have hpl := hpre.length_le
        have hd : (c :: (r ++ 10 :: R)).drop (tok (c :: r)).2.w.length = (c :: r).drop (tok (c :: r)).2.w.length ++ 10 :: R := by
          rw [← List.cons_append, List.drop_append_of_le_length hpl]
        have i2 := ih ((c :: r).drop (tok (c :: r)).2.w.length) (by simp at hl1 hpl ⊢; omega)
        rw [LX_tok hs h0, LX_tok hs' (by rw [ht]; exact h0), ht, hd]
        dsimp only
        rw [i2]
      · rw [LX_bad hs h0, LX_bad hs' (by rw [ht]; exact h0), ht, hN]
        dsimp only
        rw [if_neg h0]
theorem LX_shift2 (d N k : Nat) (m : Wd) (hk : m.length ≤ k) (hN : m.length ≤ N) (h : (LX N m).2.1 ≠ 0) : (LX (N + d) m).2 = ((LX N m).2.1, (LX N m).2.2 + d) := by
  induction k generalizing m with
  | zero =>
    have : m = [] := List.eq_nil_of_length_eq_zero (by omega)
    subst this
    rw [LX_nil (l := []) rfl] at h; exact absurd rfl h
  | succ k ih =>
    cases hs : sk false m with
    | nil => rw [LX_nil hs] at h; exact absurd rfl h
    | cons c r =>
      have hl1 := sk_le false m
      rw [hs] at hl1
      simp only [List.length_cons] at hl1
      have hq : N + d - (r.length + 1) = N - (r.length + 1) + d := by omega
      by_cases h0 : (tok (c :: r)).1 = 0
      · obtain ⟨hp, hpre⟩ := tok_pos h0
        have hpl := hpre.length_le
        rw [LX_tok hs h0] at h
        have i2 := ih ((c :: r).drop (tok (c :: r)).2.w.length) (by simp at hpl ⊢; omega) (by simp at hpl ⊢; omega) h
        rw [LX_tok hs h0, LX_tok hs h0]
        exact i2
      · rw [LX_bad hs h0, LX_bad hs h0, hq]
theorem LX_ten (N : Nat) (b : Wd) : LX N (10 :: b) = LX N b := LX_sk _ _ _ (by rw [sk_f, if_pos (by decide)])
theorem whole_jt {a b : Wd} (hl : a.length + b.length ≤ 16000) :
    whole a = LX a.length a ∧ whole b = LX b.length b ∧
    (whole (jtxt a b)).1 = (if (LX a.length a).2.1 = 0 then (LX a.length a).1 ++ (LX b.length b).1.map (sh (· + (a.length + 1))) else (LX a.length a).1) ∧
    (whole (jtxt a b)).2.1 = (if (LX a.length a).2.1 = 0 then (LX b.length b).2.1 else (LX a.length a).2.1) ∧
    ((LX a.length a).2.1 ≠ 0 → (whole (jtxt a b)).2 = (LX a.length a).2) ∧
    ((LX a.length a).2.1 = 0 → (LX b.length b).2.1 ≠ 0 → (whole (jtxt a b)).2 = ((LX b.length b).2.1, (LX b.length b).2.2 + (a.length + 1))) := by
  have hj := jtxt_len a b
  have e2 : a.length + (b.length + 1) = b.length + (a.length + 1) := by omega
  obtain ⟨i1, i2⟩ := LX_app b a.length a.length a (Nat.le_refl _)
  have i3 := LX_app2 b a.length a.length a (Nat.le_refl _)
  obtain ⟨j1, j2⟩ := LX_shift (a.length + 1) b.length b.length b (Nat.le_refl _) (Nat.le_refl _)
  rw [LX_ten] at i1 i2 i3
  have hw : whole (jtxt a b) = LX (a.length + (b.length + 1)) (a ++ 10 :: b) := by
    rw [whole_small (by omega), hj]; rfl
  refine ⟨whole_small (by omega), whole_small (by omega), ?_, ?_, ?_, ?_⟩
  · rw [hw, i1, e2, j1]; rfl
  · rw [hw, i2, e2, j2]
  · intro h
    rw [hw, i3, if_neg h]
  · intro h h'
    rw [hw, i3, if_pos h, e2, LX_shift2 _ _ _ _ (Nat.le_refl _) (Nat.le_refl _) h']
theorem prog_of {l : Wd} (h : (whole l).2.1 = 0) : prog l = (match pProg (whole l).1 with | .ok P _ => .ok P | .bad r => .bad (flt l.length r).1 (flt l.length r).2) := by
  unfold prog; rw [if_pos h]; try (cases pProg (whole l).1 <;> rfl)
theorem prog_no {l : Wd} (h : (whole l).2.1 ≠ 0) : prog l = .bad (whole l).2.1 (whole l).2.2 := by
  unfold prog; rw [if_neg h]
theorem join_bad {a b : Wd} {z q : Nat} (hl : a.length + b.length ≤ 16000) (h : prog a = .bad z q) : z = 31 ∨ ∃ z' q', prog (jtxt a b) = .bad z' q' ∧ ((z' = z ∧ q' = q) ∨ z = 30) := by
  obtain ⟨wa, wb, h1, h2, h3, h4⟩ := whole_jt hl
  by_cases h0 : (LX a.length a).2.1 = 0
  · rw [prog_of (by rw [wa]; exact h0), wa] at h
    cases hq : pProg (LX a.length a).1 with
    | ok P r => rw [hq] at h; cases h
    | bad r =>
      rw [hq] at h
      cases r with
      | nil => left; cases h; rfl
      | cons x r =>
        right
        have hz : z = 30 := by cases h; rfl
        by_cases hb : (LX b.length b).2.1 = 0
        · rw [if_pos h0] at h1 h2
          have hp : pProg ((LX a.length a).1 ++ (LX b.length b).1.map (sh (· + (a.length + 1)))) = (pProg (LX a.length a).1).app _ := (pProg_loc _ _).1 (by rw [hq]; exact List.cons_ne_nil _ _)
          rw [hq] at hp
          rw [prog_of (by rw [h2]; exact hb), h1, hp]
          exact ⟨_, _, rfl, Or.inr hz⟩
        · refine ⟨_, _, prog_no ?_, Or.inr hz⟩
          rw [h2, if_pos h0]; exact hb
  · right
    rw [prog_no (by rw [wa]; exact h0), wa] at h
    have e := h3 h0
    refine ⟨_, _, prog_no (by rw [e]; exact h0), Or.inl ?_⟩
    rw [e]
    cases h
    exact ⟨rfl, rfl⟩
theorem prog_okE {l : Wd} {P : List Kd} (h : prog l = .ok P) : (whole l).2.1 = 0 ∧ pProg (whole l).1 = .ok P [] := by
  unfold prog at h
  split at h
  · rename_i h0
    refine ⟨h0, ?_⟩
    cases hq : pProg (whole l).1 with
    | ok P' r =>
      rw [hq] at h; cases h
      rw [pProg_ok _ _ (Nat.le_refl _) _ r hq]
    | bad r => rw [hq] at h; cases h
  · cases h
theorem pProg_sh (g : Nat → Nat) (T : Tks) : pProg (T.map (sh g)) = (pProg T).mp g := pProg_bl g T
theorem join_second {a b : Wd} {z q : Nat} {P : List Kd} (hl : a.length + b.length ≤ 16000) (h : prog a = .ok P) (hb : prog b = .bad z q) : prog (jtxt a b) = .bad z (q + a.length + 1) := by
  obtain ⟨wa, wb, h1, h2, h3, h4⟩ := whole_jt hl
  obtain ⟨a0, a1⟩ := prog_okE h
  rw [wa] at a0 a1
  rw [if_pos a0] at h1 h2
  have hj := jtxt_len a b
  by_cases hb0 : (LX b.length b).2.1 = 0
  · rw [prog_of (by rw [wb]; exact hb0), wb] at hb
    rw [prog_of (by rw [h2]; exact hb0), h1, pProg_app _ _ _ (Nat.le_refl _) _ _ a1, pProg_sh]
    cases hq : pProg (LX b.length b).1 with
    | ok P r => rw [hq] at hb; cases hb
    | bad r =>
      rw [hq] at hb
      cases r with
      | nil =>
        cases hb
        show Out.bad 31 (jtxt a b).length = Out.bad 31 (b.length + a.length + 1)
        rw [hj]; congr 1; omega
      | cons x r => cases hb; rfl
  · rw [prog_no (by rw [wb]; exact hb0), wb] at hb
    have e := h4 a0 hb0
    rw [prog_no (by rw [e]; exact hb0), e]
    cases hb
    rfl
theorem join_both {a b : Wd} {P Q : List Kd} (hl : a.length + b.length ≤ 16000) (h : prog a = .ok P) (hb : prog b = .ok Q) : prog (jtxt a b) = .ok (P ++ Q) := by
  obtain ⟨wa, wb, h1, h2, h3, h4⟩ := whole_jt hl
  obtain ⟨a0, a1⟩ := prog_okE h
  obtain ⟨b0, b1⟩ := prog_okE hb
  rw [wa] at a0 a1
  rw [wb] at b0 b1
  rw [if_pos a0] at h1 h2
  rw [prog_of (by rw [h2]; exact b0), h1, pProg_app _ _ _ (Nat.le_refl _) _ _ a1, pProg_sh, b1]
  rfl
end Go.Proofs.YtnkokonkbklelaaGreatDoor.Ps
