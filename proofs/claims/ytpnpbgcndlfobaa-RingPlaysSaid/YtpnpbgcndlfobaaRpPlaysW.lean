/- RingPlays: the walk. -/
import Derived.Test.YtpnpbgcndlfobaaRpPl
import Derived.Deep.DeepCutAuto
namespace Go.Proofs.Ytpnpbgcndlfobaa.Rp
open Go.RowKit

theorem Try.infoOpQ : (Try.prog.info? 40).map (fun i => (i.zero, i.size, i.bytes)) = some (some (.pointer none), 1, 8) := by kernel_rfl
theorem Try.infoRef : (Try.prog.info? 44).map (fun i => (i.zero, i.size, i.bytes)) = some (some (.agg #[.int .i64 0, .int .u64 0, .slice none 0 0]), 3, 40) := by kernel_rfl
theorem made_refs : madeCells #[.int .i64 0, .int .u64 0, .slice none 0 0] (6 * 3) = rowC (6 * 3) (refRow fun _ => refC none) := by
  apply Array.ext
  · simp [rowC, size_madeCells]
  · intro i h1 h2
    have hm : i % 3 = 0 ∨ i % 3 = 1 ∨ i % 3 = 2 := by omega
    rcases hm with e | e | e <;> simp [madeCells, rowC, refRow, e, refC]
theorem Try.make_refs (w : World) : (Instr.makeSlice 36 (.int .i64 6) (.int .i64 6)).run Try.prog w =
    .ok (.slice (some ⟨w.heap.size, 0, none⟩) 6 6) (w.alloc (.cells (rowC (6 * 3) (refRow fun _ => refC none)) 44)) := by
  obtain ⟨i, hi, hz, hs, hb⟩ := info_parts Try.infoRef
  have := run_make (P := Try.prog) w 36 44 i _ Try.underlying36 hi hz .i64 .i64 6 6 (by omega) (Int.le_refl _) (by rw [hb]; omega) (by omega)
  rw [hs] at this
  rw [this, ← made_refs]
  rfl
theorem cell_at {w : World} {b : Nat} {cs : Array Value} {t : TypeId} {m : Nat × Nat} (h : w.heap[b]? = some (.cells cs t m)) (i : Nat) {x : Value} (hx : cs[i]? = some x) : w.cell? ⟨b, i, none⟩ = some x := by
  simp [World.cell?, h, hx]
theorem Ts.begun {w : World} {rg N0 n c p kind : Nat} {v : Int} {th : Nat → Option Thr} (t : Ts w rg N0 n c th) (hk : 1 ≤ kind ∧ kind ≤ 5) (hv : In64 v) (hN : N0 ≤ w.heap.size) :
    Calls Try.prog 16 #[.pointer (some ⟨rg, 0, none⟩), .int .i64 (kind : Int), .int .u64 v] w fun e w' => ∃ ob, e = .returned (.pointer (some ⟨ob, 0, none⟩)) ∧ Only Nil w w' ∧ Ts w' rg N0 n c (upd th p (some ⟨ob, begin kind v, kind, v, [], 0, none⟩)) ∧ N0 ≤ ob := by
  refine (begun_any w rg kind v hk).mono ?_
  rintro e w' ⟨rfl, q, o, z⟩
  exact ⟨_, rfl, o, t.start hk hv q o hN, hN⟩
theorem po_upd (th : Nat → Option Thr) (p : Nat) (h : Thr) : upd (fun q => ptrOf (th q)) p (.pointer (some ⟨h.ob, 0, none⟩)) = fun q => ptrOf (upd th p (some h) q) := by
  funext q
  by_cases e : q = p
  · subst e; rw [upd_same, upd_same]; rfl
  · rw [upd_other _ _ _ _ e, upd_other _ _ _ _ e]
theorem rf_upd (th : Nat → Option Thr) (p : Nat) (h : Thr) : upd (fun q => refC (th q)) p (fun j => if j = 0 then .int .i64 (h.kind : Int) else if j = 1 then .int .u64 h.v else .slice h.a h.log.length h.cap) = fun q => refC (upd th p (some h) q) := by
  funext q
  by_cases e : q = p
  · subst e; rw [upd_same, upd_same]
    funext j
    match j with
    | 0 => rfl
    | 1 => rfl
    | j + 2 => simp [refC]
  · rw [upd_other _ _ _ _ e, upd_other _ _ _ _ e]
theorem Pb.th {w1 w : World} {rg hb rb hw rw pb fb ab N0 b c p : Nat} {L L2 : List Int} {t t' : Int} {th : Nat → Option Thr} {x : Value} {f : Nat → Value} (P : Pb w1 w rg hb rb hw rw pb fb ab N0 b c L L2 t t' (upd (fun q => ptrOf (th q)) p x) (upd (fun q => refC (th q)) p f)) (h : Thr)
    (ex : x = .pointer (some ⟨h.ob, 0, none⟩)) (ef : f = fun j => if j = 0 then .int .i64 (h.kind : Int) else if j = 1 then .int .u64 h.v else .slice h.a h.log.length h.cap) :
    Pb w1 w rg hb rb hw rw pb fb ab N0 b c L L2 t t' (fun q => ptrOf (upd th p (some h) q)) (fun q => refC (upd th p (some h) q)) := by
  subst ex ef
  rw [← po_upd, ← rf_upd]
  exact P
theorem Only.two {w : World} {pb fb p : Nat} (x y0 y1 y2 : Value) : Only (fun k => k = pb ∨ k = fb) w ((((w.setCell ⟨pb, p, none⟩ x).setCell ⟨fb, p * 3, none⟩ y0).setCell ⟨fb, p * 3 + 1, none⟩ y1).setCell ⟨fb, p * 3 + 2, none⟩ y2) :=
  ((((Only.refl (fun k => k = pb ∨ k = fb) w).setCell (p := ⟨pb, p, none⟩) (.inl rfl) x).setCell (p := ⟨fb, p * 3, none⟩) (.inr rfl) y0).setCell (p := ⟨fb, p * 3 + 1, none⟩) (.inr rfl) y1).setCell (p := ⟨fb, p * 3 + 2, none⟩) (.inr rfl) y2
theorem Only.one {w : World} {fb p : Nat} (y0 y1 y2 : Value) : Only (fun k => k = fb) w (((w.setCell ⟨fb, p * 3, none⟩ y0).setCell ⟨fb, p * 3 + 1, none⟩ y1).setCell ⟨fb, p * 3 + 2, none⟩ y2) :=
  (((Only.refl (fun k => k = fb) w).setCell (p := ⟨fb, p * 3, none⟩) rfl y0).setCell (p := ⟨fb, p * 3 + 1, none⟩) rfl y1).setCell (p := ⟨fb, p * 3 + 2, none⟩) rfl y2
section
variable {w1 w w' : World} {rg hb rb hw rw pb fb ab N0 n b c p : Nat} {L : List Int} {t t' : Int} {th : Nat → Option Thr} {h : Thr}
/-- What the law asks behind each round: the document's Next, like. -/
theorem chk_next (P : Pb w1 w rg hb rb hw rw pb fb ab N0 b c L L t t' (fun p => ptrOf (th p)) (fun p => refC (th p))) (T : Ts w rg N0 n c th) (hp : p < 6) (e : th p = some h) (hn : n ≤ 1000) (o : Only Nil w w') :
    Calls Try.prog 21 #[.agg #[.int .i64 (b : Int), .int .i64 (c : Int)], .agg #[.int .i64 (h.kind : Int), .int .u64 h.v, .slice h.a h.log.length h.cap]] w' fun e w'' => e = .returned (wantOf b c h.s) ∧ Only Nil w' w'' := by
  have k := (T.nil o).thr p h hp e
  have := rnext_any w' b c h.kind h.v h.a h.cap h.log k.kd P.rng.pc P.rng.uc P.rng.ub k.lg k.fits (by have := k.len; omega)
  rwa [k.run] at this
theorem chk_like (T : Ts w rg N0 n c th) (hp : p < 6) (e : th p = some h) (hn : n ≤ 1000) (o : Only Nil w w') :
    Calls Try.prog 20 #[.pointer (some ⟨h.ob, 0, none⟩), wantOf b c h.s] w' fun e w'' => e = .returned (.bool true) ∧ Only Nil w' w'' :=
  like_any ((T.nil o).thr p h hp e).op (((T.nil o).thr p h hp e).ok.tk (by omega))
theorem chk_all (P : Pb w1 w rg hb rb hw rw pb fb ab N0 b c L L t t' (fun p => ptrOf (th p)) (fun p => refC (th p))) (hL : L.length ≤ 65536) (o : Only Nil w w') :
    Calls Try.prog 23 #[.pointer (some ⟨hb, 0, none⟩)] w' fun e w'' => ∃ q, e = .returned (.slice (some ⟨q, 0, none⟩) L.length L.length) ∧ w''.heap[q]? = some (.cells (u64s L) 37 (0, 0)) ∧ w''.cell? ⟨hw, 0, none⟩ = some (.slice (some ⟨rw, 0, none⟩) L.length L.length) ∧ w''.heap[rw]? = some (.cells (u64s L) 37 (0, 0)) ∧ Only Nil w' w'' := by
  refine (all_any (P.nil o).rng.mem hL).mono ?_
  rintro e w'' ⟨rfl, h1, h2, o2⟩
  exact ⟨_, rfl, h1, ((P.nil o).nil o2).ref.c0, ((P.nil o).nil o2).ref.row, o2⟩
theorem Pb.held (P : Pb w1 w rg hb rb hw rw pb fb ab N0 b c L L t t' (fun p => ptrOf (th p)) (fun p => refC (th p))) (hp : p < 6) (e : th p = some h) (o : Only Nil w w') :
    w'.cell? ⟨pb, p, none⟩ = some (.pointer (some ⟨h.ob, 0, none⟩)) ∧ w'.cell? ⟨ab, 0, none⟩ = some (.int .i64 (b : Int)) ∧ w'.cell? ⟨ab, 1, none⟩ = some (.int .i64 (c : Int)) ∧ w'.cell? ⟨fb, p * 3, none⟩ = some (.int .i64 (h.kind : Int)) ∧ w'.cell? ⟨fb, p * 3 + 1, none⟩ = some (.int .u64 h.v) ∧ w'.cell? ⟨fb, p * 3 + 2, none⟩ = some (.slice h.a h.log.length h.cap) ∧ w'.cell? ⟨hw, 0, none⟩ = some (.slice (some ⟨rw, 0, none⟩) L.length L.length) := by
  have Q := P.nil o
  obtain ⟨a1, _⟩ := Q.opc p hp
  obtain ⟨⟨a2, a3, a4⟩, _⟩ := Q.rfc p hp
  obtain ⟨a5, a6⟩ := Q.atc
  simp only [e, ptrOf, refC] at a1 a2 a3 a4
  exact ⟨a1, a5, a6, a2, a3, a4, Q.ref.c0⟩
theorem st_dev (P : Pb w1 w rg hb rb hw rw pb fb ab N0 b c L L t t' (fun p => ptrOf (th p)) (fun p => refC (th p))) (T : Ts w rg N0 n c th) (hp : p < 6) (e : th p = some h) (u : OkL b n L) (hn : n ≤ 1000) (t1 : t < 4611686018427386000) :
    Calls Try.prog 18 #[.pointer (some ⟨h.ob, 0, none⟩)] w fun e w' => e = .returned (.bool (stepS b c L h.s).isO) ∧ OpIn w' h.ob rg (stepS b c L h.s) ∧ Rng w' rg hb rb b c (stepL b c L h.s) (stepT h.s t) ∧ Only (OB hb rb h.ob) w w' := by
  have k := T.thr p h hp e
  have ord := P.ord
  have hob := k.hob
  exact dstep_any h.s P.rng k.op (fun z => by rcases z with z | z <;> omega) (by omega) (k.ok.tk (by omega)) (u.2.nums (by omega)) t1
theorem stepT_up (s : OS) (t : Int) : stepT s t ≤ t + 1 ∧ t ≤ stepT s t := by unfold stepT; split <;> omega
theorem st_ref {w4 : World} (P : Pb w1 w rg hb rb hw rw pb fb ab N0 b c L L t t' (fun p => ptrOf (th p)) (fun p => refC (th p))) (T : Ts w rg N0 n c th) (hp : p < 6) (e : th p = some h) (u : OkL b n L) (hL : L.length = b + 2 + 2 * c + 1) (t0 : 0 ≤ t') (t1 : t' < 4611686018427386000) (hn : n ≤ 1000)
    (Q4 : OpIn w4 h.ob rg (stepS b c L h.s)) (P4 : Pb w1 w4 rg hb rb hw rw pb fb ab N0 b c (stepL b c L h.s) L (stepT h.s t) t' (fun p => ptrOf (th p)) (fun p => refC (th p))) (O4 : Only (OB hb rb h.ob) w w4) :
    Calls Try.prog 19 #[.pointer (some ⟨hw, 0, none⟩), .agg #[.int .i64 (b : Int), .int .i64 (c : Int)], .agg #[.int .i64 (h.kind : Int), .int .u64 h.v, .slice h.a h.log.length h.cap]] w4 fun e w6 => ∃ l6 g6 c6, e = .returned (.agg #[.int .i64 (h.kind : Int), .int .u64 h.v, .slice (g6.map fun g => ⟨g, 0, none⟩) l6.length c6]) ∧
      Ts w6 rg N0 (n + 1) c (upd th p (some ⟨h.ob, stepS b c L h.s, h.kind, h.v, l6, c6, g6⟩)) ∧ Pb w1 w6 rg hb rb hw rw pb fb ab N0 b c (stepL b c L h.s) (stepL b c L h.s) (stepT h.s t) (stepT h.s t') (fun p => ptrOf (th p)) (fun p => refC (th p)) := by
  have k := T.thr p h hp e
  have ord := P.ord
  have hob := k.hob
  have lg4 : LogIn w4 h.a h.log := k.lg.keep O4 (fun q b' e' s => by
    unfold Thr.a at e'
    cases hg : h.g with
    | none => rw [hg] at e'; cases e'
    | some g =>
      rw [hg] at e'; cases e'
      intro z; simp only at z; subst z
      have g1 := (k.hg _ hg).1
      rcases s with (s | s) | s
      · omega
      · omega
      · exact (T.dis p p h h hp hp e e).2 _ hg s)
  refine (rstep_any w4 hw rw L t' b c h.kind h.v _ h.log P4.ref (by omega) t0 (by omega) k.kd P.rng.pc P.rng.uc P.rng.ub h.g ⟨h.a, h.cap, rfl, lg4, k.lz, rfl⟩ k.fits (by have := k.len; omega) (u.2.nums (by omega)) u.1).mono ?_
  rintro e6 w6 ⟨x6, l6, g6, rfl, ⟨a6, c6, rfl, lg6, lz6, rfl⟩, hg6, hf6, hl6, hr6, R6, O6⟩
  rw [k.run] at hr6 R6
  refine ⟨l6, g6, c6, rfl, T.step hp e Q4 O4 ⟨by omega, by omega, by omega, by omega⟩ (stepS_le h.s k.ok u.2 u.1) O6 lg6 lz6 hg6 (fun q hq => ?_) hr6 hf6 (by have := k.len; omega) P.n0, P4.doc R6 O6⟩
  rcases hg6 with z | ⟨q', z, _⟩
  · exact Nat.lt_of_lt_of_le (k.hg q (z ▸ hq)).2 (Nat.le_trans O4.size O6.size)
  · rw [z] at hq; cases hq
    have hne : l6 ≠ [] := fun z2 => by have := (lz6 z2).1; rw [z] at this; cases this
    obtain ⟨g, hg, hlt, _⟩ := lg6 0 (List.length_pos_iff.2 hne)
    rw [z] at hg; cases hg; exact hlt
theorem Pb.th2 {t2 : Int} {L2 : List Int} {f : Nat → Value} (P : Pb w1 w rg hb rb hw rw pb fb ab N0 b c L L2 t t2 (fun q => ptrOf (th q)) (upd (fun q => refC (th q)) p f)) (e : th p = some h) (h' : Thr) (hob : h'.ob = h.ob)
    (ef : f = fun j => if j = 0 then .int .i64 (h'.kind : Int) else if j = 1 then .int .u64 h'.v else .slice h'.a h'.log.length h'.cap) :
    Pb w1 w rg hb rb hw rw pb fb ab N0 b c L L2 t t2 (fun q => ptrOf (upd th p (some h') q)) (fun q => refC (upd th p (some h') q)) := by
  refine Pb.th (x := .pointer (some ⟨h'.ob, 0, none⟩)) ?_ h' rfl ef
  have : upd (fun q => ptrOf (th q)) p (.pointer (some ⟨h'.ob, 0, none⟩)) = fun q => ptrOf (th q) := by
    funext q
    by_cases g : q = p
    · subst g; rw [upd_same, e, hob]; rfl
    · rw [upd_other _ _ _ _ g]
  rw [this]; exact P
theorem Pl.next {n' : Nat} (P : Pb w1 w rg hb rb hw rw pb fb ab N0 b c L L t t' (fun p => ptrOf (th p)) (fun p => refC (th p))) (T : Ts w rg N0 n c th) (u : OkL b n' L) (hL : L.length = b + 2 + 2 * c + 1) (h0 : 0 ≤ t') (h1 : t' ≤ (n' : Int)) (h2 : t ≤ 100 + (n' : Int)) (hn : n ≤ n') (o : Only Nil w w') :
    ∃ L t t' th, Pb w1 w' rg hb rb hw rw pb fb ab N0 b c L L t t' (fun p => ptrOf (th p)) (fun p => refC (th p)) ∧ Ts w' rg N0 n' c th ∧ OkL b n' L ∧ L.length = b + 2 + 2 * c + 1 ∧ 0 ≤ t' ∧ t' ≤ (n' : Int) ∧ t ≤ 100 + (n' : Int) :=
  ⟨L, t, t', th, P.nil o, (T.nil o).mono hn, u, hL, h0, h1, h2⟩
end
/-- May an operation be begun there? -/
def idl : Option Thr → Bool
  | none => true
  | some h => h.s.isO
/-- All that the walk carries along, behind n rounds. -/
def Pl (w1 w : World) (rg hb rb hw rw pb fb ab N0 b c n : Nat) : Prop :=
  ∃ L t t' th, Pb w1 w rg hb rb hw rw pb fb ab N0 b c L L t t' (fun p => ptrOf (th p)) (fun p => refC (th p)) ∧ Ts w rg N0 n c th ∧ OkL b n L ∧ L.length = b + 2 + 2 * c + 1 ∧ 0 ≤ t' ∧ t' ≤ (n : Int) ∧ t ≤ 100 + (n : Int)
/-- A statement, behind two others. -/
structure Split3 (S : Prop) where
  P : Prop
  Q : Prop
  R : Prop
  go : Hid P → Hid Q → Hid R → S
set_option linter.unusedSimpArgs false in
set_option maxRecDepth 100000 in
set_option maxHeartbeats 16000000 in
noncomputable def playsSplit : Split3 (∀ (k1 k2 : Int) (a : Option Addr) (cap : Nat) (S : List OpN) (b c : Nat) (w : World) (_ : 1 ≤ c ∧ c ≤ 9) (_ : b < 5) (_ : 1 + k1 % 9 = (c : Int)) (_ : k2 % 5 = (b : Int)) (_ : 0 ≤ k1 ∧ k1 < 256) (_ : 0 ≤ k2 ∧ k2 < 256) (_ : OpsIn w a S) (_ : OpsOk S) (_ : S.length * 16 ≤ 140737488351232), Calls Try.prog 3 #[.int .u8 k1, .int .u8 k2, .slice a S.length cap] w fun e w' => e = .returned (.bool true) ∧ Below w.heap.size w w') := ⟨_, _, _, fun hS1z hS2z hS3z => by
  intro k1 k2 a cap S b c w hc hb e1 e2 hk hk2 hS hok hr
  have nw := Lib.hid (fun w => new_any ((b : Int) + 2 + 2 * (c : Int) + 1) w)
  have rn := Lib.hid (fun w => rnew_any ((b : Int) + 2 + 2 * (c : Int) + 1) w)
  rw [show count ((b : Int) + 2 + 2 * (c : Int) + 1) = b + 2 + 2 * c + 1 by unfold count; omega] at nw rn
  have mk := Lib.hid (fun (w1 : World) (hb' rb : Nat) (m : MemAt w1 hb' rb (zeros (b + 2 + 2 * c + 1)) 0) => make_yes (b := b) (c := c) m (by decide) (by decide) (by omega) (by omega) (by omega) (by rw [length_zeros]; omega) (by rw [length_zeros]; omega))
  have ly := Lib.hid (fun (w1 : World) (hb' rb : Nat) (m : RefAt w1 hb' rb (zeros (b + 2 + 2 * c + 1)) 0) => rlay_any m b c (by omega) (by omega) (by rw [length_zeros]; omega))
  have hmk := fun (w : World) => run_make_row' (P := Try.prog) 35 40 (.pointer none) 8 Try.underlying35 Try.infoOpQ rfl .i64 .i64 6 (by omega) (by omega) w
  simp only [made_row, show ((6 : Nat) : Int) = 6 from rfl] at hmk
  have hmr := fun (w : World) => Try.make_refs w
  obtain ⟨x1, x2⟩ := hk
  obtain ⟨x3, x4⟩ := hk2
  have c9 := Lib.hid hc
  have b5 := Lib.hid hb
  have hS' := Lib.hid hS
  have hok' := Lib.hid hok
  have cl : (c : Int) ≤ 9 := by omega
  have bl : (b : Int) < 5 := by omega
  clear hc hb hS hok
  generalize hlen : S.length = len at hr ⊢
  have hlen' := Lib.hid hlen
  clear hlen
  have len8 : (len : Int) * 16 ≤ 140737488351232 := by omega
  have e1' := Lib.hid e1
  have e2' := Lib.hid e2
  rw [← e1, ← e2] at nw rn mk ly
  clear e1 e2
  go_enter Try.func3, Try.ntmps3
  go_wp2_with (first
    | (go_at_call 10; (with_reducible refine (alive_any _).mono ?_); rintro e w1 ⟨rfl, o1⟩)
    | (go_at_call 11; (with_reducible refine (nw.out _).mono ?_); rintro e w2 ⟨rfl, m2, o2⟩)
    | (go_at_call 12; (with_reducible refine (mk.out _ _ _ m2).mono ?_); rintro e w3 ⟨dq, rfl, gge, R3, o3⟩; have z3 := R3.ring.lt)
    | (go_at_call 13; (with_reducible refine (rn.out _).mono ?_); rintro e w4 ⟨rfl, m4_, o4⟩; have m4 : RefAt w4 (w3.heap.size + 1 + 1) (w3.heap.size + 1) (zeros (b + 2 + 2 * c + 1)) 0 := (by simpa using m4_); clear m4_; have bA := (o4.block w3.heap.size (by simp) (fun h => h)).trans (heap_new w3 (.cells #[.int .i64 (k2 % 5), .int .i64 (1 + k1 % 9)] 31)); have a0 : w4.cell? ⟨w3.heap.size, 0, none⟩ = some (.int .i64 (k2 % 5)) := (by simp [World.cell?, bA]); have a1 : w4.cell? ⟨w3.heap.size, 1, none⟩ = some (.int .i64 (1 + k1 % 9)) := (by simp [World.cell?, bA]))
    | (go_at_call 14; (with_reducible refine (ly.out _ _ _ m4).mono ?_); rintro e w5 ⟨rfl, m5, o5⟩))
  have hL : (layL (zeros (b + 2 + 2 * c + 1)) b c).length = b + 2 + 2 * c + 1 := by rw [layL_length, length_zeros]
  have hu : OkL b 0 (layL (zeros (b + 2 + 2 * c + 1)) b c) := okL_fresh _ _ _
  rw [e1'.out, e2'.out]
  have P0 : Hid (Pl w1 ((w5.alloc (.cells (rowC 6 fun _ => .pointer none) 40)).alloc (.cells (rowC (6 * 3) (refRow fun _ => refC none)) 44)) dq (w1.heap.size + 1) w1.heap.size (w3.heap.size + 1 + 1) (w3.heap.size + 1) w5.heap.size (w5.heap.size + 1) w3.heap.size (w5.heap.size + 1 + 1) b c 0) := Lib.hid (by
    have s1 := m2.lt_hb
    have s4 := m4.lt_hb
    have s5 := o5.size
    have bA5 : w5.heap[w3.heap.size]? = some (.cells #[.int .i64 (b : Int), .int .i64 (c : Int)] 31 (0, 0)) := by
      rw [o5.block w3.heap.size (lt_of_block bA) (fun z => by rcases z with z | z <;> omega), bA, e1'.out, e2'.out]
    have oA : Only Nil w3 w4 := ((Only.refl Nil w3).alloc _).trans o4
    have R5 := (R3.nil oA).keep o5 (fun z => by rcases z with z | z <;> omega) (fun z => by rcases z with z | z <;> omega) (fun z => by rcases z with z | z <;> omega)
    have q1 : Only Nil w1 w5 := ((o2.then o3 (fun k z _ => by rcases z with z | z <;> omega)).trans oA).then o5 (fun k z _ => by have := o3.size; have := o2.size; rcases z with z | z <;> omega)
    have q2 : Only Nil w5 ((w5.alloc (.cells (rowC 6 fun _ => .pointer none) 40)).alloc (.cells (rowC (6 * 3) (refRow fun _ => refC none)) 44)) := ((Only.refl Nil w5).alloc _).alloc _
    have f1 : ((w5.alloc (.cells (rowC 6 fun _ => .pointer none) 40)).alloc (.cells (rowC (6 * 3) (refRow fun _ => refC none)) 44)).heap[w5.heap.size + 1]? = some (.cells (rowC (6 * 3) (refRow fun _ => refC none)) 44 (0, 0)) := by
      have := heap_new (w5.alloc (.cells (rowC 6 fun _ => .pointer none) 40)) (.cells (rowC (6 * 3) (refRow fun _ => refC none)) 44)
      simpa using this
    have f2 : ((w5.alloc (.cells (rowC 6 fun _ => .pointer none) 40)).alloc (.cells (rowC (6 * 3) (refRow fun _ => refC none)) 44)).heap[w5.heap.size]? = some (.cells (rowC 6 fun _ => .pointer none) 40 (0, 0)) := by
      rw [Below.heap_alloc _ _ _ (by simp)]; exact heap_new w5 _
    refine ⟨_, _, _, fun _ => none, ⟨R5.nil q2, m5.keep q2 (fun z => z) (fun z => z), f2, f1, (q2.block _ (lt_of_block bA5) (fun z => z)).trans bA5, q1.trans q2, by simp, ?_⟩, ⟨fun p h _ e => (by cases e), fun p q h h' _ _ e => (by cases e)⟩, hu, hL, Int.le_refl _, by simp, ?_⟩
    · have := o3.size; omega
    · have := c9.out; omega)
  have ow := Lib.hid o1
  clear o1 o2 m2 R3 o3 z3 m4 o4 bA a0 a1 m5 o5 hL hu nw rn mk ly hmk hmr
  generalize ((w5.alloc (.cells (rowC 6 fun _ => .pointer none) 40)).alloc (.cells (rowC (6 * 3) (refRow fun _ => refC none)) 44)) = W0 at P0 ⊢
  generalize w5.heap.size + 1 + 1 = N0 at P0
  generalize w5.heap.size + 1 = fb at P0 ⊢
  generalize w5.heap.size = pb at P0 ⊢
  generalize w3.heap.size + 1 + 1 = hw at P0 ⊢
  generalize w3.heap.size + 1 = rw_ at P0
  generalize w3.heap.size = ab at P0 ⊢
  generalize w1.heap.size + 1 = hb at P0 ⊢
  generalize w1.heap.size = rb at P0
  go_loopw [16] (fun s16 wr => ∃ i : Nat, i ≤ len ∧ i ≤ 400 ∧ s16 = .int .i64 (i : Int) ∧ Hid (Pl w1 wr dq hb rb hw rw_ pb fb ab N0 b c i))
    (fun s16 _ => 400 - (intOf s16).toNat)
  case atStart => exact ⟨0, Nat.zero_le _, Nat.zero_le _, rfl, P0⟩
  case round =>
    obtain ⟨i, hil, hi4, rfl, hh⟩ := hrel
    by_cases hin : i < len ∧ i < 400
    · have hli : (i : Int) < (len : Int) := by omega
      have hl3 : (i : Int) < 400 := by omega
      have hi2 := Lib.hid hin
      obtain ⟨L, t, t', th, P, Tt, u, lL, t0, tn, tt⟩ := hh.out
      obtain ⟨bS, off, rfl, hb1, hb2⟩ := hS'.out i (by rw [hlen'.out]; exact hin.1)
      obtain ⟨x5, x6, x7⟩ := hb2 i (by rw [hlen'.out]; exact hin.1)
      have ok5 := hok'.out i (by rw [hlen'.out]; exact hin.1)
      clear hb2
      generalize S[i]'(by rw [hlen'.out]; exact hin.1) = o at x5 x6 x7 ok5
      obtain ⟨kd, ti, v⟩ := o
      simp only at x5 x6 x7 ok5
      obtain ⟨⟨k50, k51⟩, ⟨k60, k61⟩, hv⟩ := ok5
      obtain ⟨K, rfl⟩ := Int.eq_ofNat_of_zero_le k50
      obtain ⟨Y, rfl⟩ := Int.eq_ofNat_of_zero_le k60
      have owr : Only Nil w wr := ow.out.trans P.only
      have y5 : wr.cell? ⟨bS, off + i * 3, none⟩ = some (.int .u8 (K : Int)) := (World.cell?_of_block (a := ⟨bS, off + i * 3, none⟩) (owr.block bS hb1 (fun z => z))).trans x5
      have y6 : wr.cell? ⟨bS, off + i * 3 + 1, none⟩ = some (.int .u8 (Y : Int)) := (World.cell?_of_block (a := ⟨bS, off + i * 3 + 1, none⟩) (owr.block bS hb1 (fun z => z))).trans x6
      have y7 : wr.cell? ⟨bS, off + i * 3 + 2, none⟩ = some (.int .u64 v) := (World.cell?_of_block (a := ⟨bS, off + i * 3 + 2, none⟩) (owr.block bS hb1 (fun z => z))).trans x7
      have hv' := Lib.hid hv
      clear x5 x6 x7 hb1 hin hil hi4 hv
      have wk : IntKind.i64.wrap (K : Int) = (K : Int) := IntWalk.i64_in _ (by omega)
      have wy : IntKind.i64.wrap (Y : Int) = (Y : Int) := IntWalk.i64_in _ (by omega)
      have mk1 : Int.tmod (K : Int) 7 = ((K % 7 : Nat) : Int) := rfl
      have my1 : Int.tmod (Y : Int) 6 = ((Y % 6 : Nat) : Int) := rfl
      have mk2 : (K : Int) % 7 = ((K % 7 : Nat) : Int) := rfl
      have my2 : (Y : Int) % 6 = ((Y % 6 : Nat) : Int) := rfl
      have hp := Nat.mod_lt Y (show 0 < 6 by decide)
      have hk5 := Nat.mod_lt K (show 0 < 7 by decide)
      generalize Y % 6 = p at my1 my2 hp
      generalize K % 7 = kk at mk1 mk2 hk5
      have hp' := Lib.hid hp
      have p5 : (p : Int) < 6 := by omega
      have owr' := Lib.hid owr
      have P' := Lib.hid P
      have Tt' := Lib.hid Tt
      have u' := Lib.hid u
      have nums := Lib.hid (And.intro lL (And.intro t0 (And.intro tn tt)))
      clear P Tt u lL t0 tn tt hh owr
      have oA : Only Nil wr (wr.alloc (.cells #[.int .u8 (K : Int), .int .u8 (Y : Int), .int .u64 v] 39)) := (Only.refl Nil wr).alloc _
      have P1 := Lib.hid (P'.out.nil oA)
      have T1 := Lib.hid (Tt'.out.nil oA)
      have bO := heap_new wr (.cells #[.int .u8 (K : Int), .int .u8 (Y : Int), .int .u64 v] 39)
      have z2 : (wr.alloc (.cells #[.int .u8 (K : Int), .int .u8 (Y : Int), .int .u64 v] 39)).cell? ⟨wr.heap.size, 2, none⟩ = some (.int .u64 v) := cell_at bO 2 rfl
      have bO' := Lib.hid bO
      have hz := Lib.hid (show wr.heap.size < (wr.alloc (.cells #[.int .u8 (K : Int), .int .u8 (Y : Int), .int .u64 v] 39)).heap.size by simp)
      obtain ⟨g1, g2⟩ := P1.out.opc p hp'.out
      have r1c := P1.out.ref.c0
      clear bO oA
      go_upto_region 20 with (fail)
      go_cut [20] (fun s20 wx => s20 = .bool (idl (th p)) ∧ wx = (wr.alloc (.cells #[.int .u8 (K : Int), .int .u8 (Y : Int), .int .u64 v] 39)))
      case first =>
        rcases hth : th p with _ | h
        · rw [hth] at g1
          simp only [ptrOf] at g1
          go_wp2_with (fail)
          go_meet
          exact ⟨by rw [hth]; rfl, rfl⟩
        · rw [hth] at g1
          simp only [ptrOf] at g1
          have tk := T1.out.thr p h hp'.out hth
          have ov := Lib.hid (overO tk.op (tk.ok.tk (by have := hi2.out; omega)))
          clear tk
          go_wp2_with (go_at_call 15; (with_reducible refine (ov.out).mono ?_); rintro e w2 ⟨rfl, rfl⟩)
          go_meet
          exact ⟨by rw [hth]; rfl, rfl⟩
      case rest =>
        obtain ⟨rfl, rfl⟩ := hcut
        go_upto_region 21 with (fail)
        go_cut [106] (fun s106 wx => s106 = .bool (decide (1 ≤ kk ∧ kk ≤ 5)) ∧ wx = (wr.alloc (.cells #[.int .u8 (K : Int), .int .u8 (Y : Int), .int .u64 v] 39)))
        case first =>
          by_cases h1 : (1 : Int) ≤ (kk : Int)
          · by_cases h3 : (kk : Int) ≤ 5
            · go_wp2_with (fail)
              go_meet
              exact ⟨congrArg Value.bool (decide_eq_true (show 1 ≤ kk ∧ kk ≤ 5 by omega)).symm, rfl⟩
            · go_wp2_with (fail)
              go_meet
              exact ⟨congrArg Value.bool (decide_eq_false (show ¬ (1 ≤ kk ∧ kk ≤ 5) by omega)).symm, rfl⟩
          · go_wp2_with (fail)
            go_meet
            exact ⟨congrArg Value.bool (decide_eq_false (show ¬ (1 ≤ kk ∧ kk ≤ 5) by omega)).symm, rfl⟩
        case rest =>
          obtain ⟨rfl, rfl⟩ := hcut
          go_upto_if 106 with (fail)
          go_cut [18, 20] (fun s18 s20 wx => s18 = .int .i64 (p : Int) ∧ Hid (Pl w1 wx dq hb rb hw rw_ pb fb ab N0 b c (i + 1)))
          case first =>
            repeat revert ‹Value›
            repeat revert ‹World›
            repeat revert ‹Int›
            repeat revert ‹Nat›
            repeat revert ‹List Int›
            repeat revert ‹List OpN›
            repeat revert ‹Option Addr›
            repeat revert ‹Nat → Option Thr›
            repeat revert ‹Thr›
            repeat revert ‹Act → World → Prop›
            repeat revert ‹Exit → Act → World → Prop›
            exact hS3z.out
          case rest =>
            clear g1 g2
            obtain ⟨rfl, hh2⟩ := hcut
            obtain ⟨Lz, tz, tz', thz, P2_, T2_, u2_, lL2, t02, tn2, tt2⟩ := hh2.out
            have PZ := Lib.hid P2_
            have TZ := Lib.hid T2_
            have u2 := Lib.hid u2_
            have lenZ := Lib.hid lL2
            have nm := Lib.hid (And.intro t02 (And.intro tn2 tt2))
            obtain ⟨g1, g2⟩ := P2_.opc p hp'.out
            clear P2_ T2_ u2_ lL2 t02 tn2 tt2 hh2
            generalize wc = Z at PZ TZ g1 g2 ⊢
            rcases hth2 : thz p with _ | h
            · repeat revert ‹Value›
              repeat revert ‹World›
              repeat revert ‹Int›
              repeat revert ‹Nat›
              repeat revert ‹List Int›
              repeat revert ‹List OpN›
              repeat revert ‹Option Addr›
              repeat revert ‹Nat → Option Thr›
              repeat revert ‹Thr›
              repeat revert ‹Act → World → Prop›
              repeat revert ‹Exit → Act → World → Prop›
              exact hS1z.out
            · repeat revert ‹Value›
              repeat revert ‹World›
              repeat revert ‹Int›
              repeat revert ‹Nat›
              repeat revert ‹List Int›
              repeat revert ‹List OpN›
              repeat revert ‹Option Addr›
              repeat revert ‹Nat → Option Thr›
              repeat revert ‹Thr›
              repeat revert ‹Act → World → Prop›
              repeat revert ‹Exit → Act → World → Prop›
              exact hS2z.out
    · have ow2 : Only Nil w wr := by obtain ⟨_, _, _, _, P, _⟩ := hh.out; exact ow.out.trans P.only
      have ow3 := Lib.hid ow2
      have hin2 : ¬ ((i : Int) < (len : Int)) ∨ ((i : Int) < (len : Int) ∧ ¬ ((i : Int) < 400)) := by omega
      clear hin hil hi4 hh ow2
      rcases hin2 with hin3 | ⟨hin3, hin4⟩
      all_goals (
        go_wp2
        go_ret
        exact ⟨rfl, ow3.out.below (Nat.le_refl _) (fun _ z => z.elim)⟩)⟩
set_option linter.unusedSimpArgs false in
set_option maxRecDepth 100000 in
set_option maxHeartbeats 16000000 in
theorem rest_1 : playsSplit.P := by
  intro x0_
  revert x0_
  set_option tactic.hygienic false in intros
  rw [hth2] at g1
  simp only [ptrOf] at g1
  have hz6 := hth2
  go_wp2_with (fail)
  have al := Lib.hid (fun w' (o : Only Nil Z w') => chk_all PZ.out (by rw [lenZ.out]; have := c9.out; have := b5.out; omega) o)
  have hd : ∀ w', Only Nil Z w' → (w'.cell? ⟨pb, p, none⟩ = some (.pointer none) ∧ w'.cell? ⟨hw, 0, none⟩ = some (.slice (some ⟨rw_, 0, none⟩) Lz.length Lz.length)) := fun w' o => ⟨by have := ((PZ.out.nil o).opc p hp'.out).1; simp only [hz6, ptrOf] at this; exact this, (PZ.out.nil o).ref.c0⟩
  have hd' := Lib.hid hd
  obtain ⟨s1, s7⟩ := hd Z (Only.refl Nil Z)
  clear hd g1 g2
  refine wp_region_held_drew (S := fun w' => w'.cell? ⟨pb, p, none⟩ = some (.pointer none) ∧ w'.cell? ⟨hw, 0, none⟩ = some (.slice (some ⟨rw_, 0, none⟩) Lz.length Lz.length)) (by kernel_rfl) ⟨s1, s7⟩ (fun hHeld => ?_)
  refine wpAnyH_take (i := 0) (v := ?v0) rfl (by kernel_rfl) (by kernel_rfl) (by kernel_rfl) (fun _ _ _ h => h) (Or.inl ⟨by rfl, ?h0⟩) (by assumption) ?r0
  case h0 => (intro w hSw; (try dsimp only at hSw); (try obtain ⟨s1, s2⟩ := hSw); first | (go_simp; done) | (go_simp; with_reducible rfl))
  try simp only [Act.put, List.setIfInBounds_toArray, List.set_cons_zero, List.set_cons_succ]
  refine wpAnyH_take (i := 1) (v := ?v1) rfl (by kernel_rfl) (by kernel_rfl) (by kernel_rfl) (fun _ _ _ h => h) (Or.inl ⟨by rfl, ?h1⟩) (by assumption) ?r1
  case h1 => (intro w hSw; (try dsimp only at hSw); (try obtain ⟨s1, s2⟩ := hSw); first | (go_simp; done) | (go_simp; with_reducible rfl))
  try simp only [Act.put, List.setIfInBounds_toArray, List.set_cons_zero, List.set_cons_succ]
  refine wpAnyH_take (i := 2) (v := ?v2) rfl (by kernel_rfl) (by kernel_rfl) (by kernel_rfl) (fun _ _ _ h => h) (Or.inl ⟨by rfl, ?h2⟩) (by assumption) ?r2
  case h2 => (intro w hSw; (try dsimp only at hSw); (try obtain ⟨s1, s2⟩ := hSw); first | (go_simp; done) | (go_simp; with_reducible rfl))
  try simp only [Act.put, List.setIfInBounds_toArray, List.set_cons_zero, List.set_cons_succ]
  refine wpAnyH_take (i := 3) (v := ?v3) rfl (by kernel_rfl) (by kernel_rfl) (by kernel_rfl) (fun _ _ _ h => h) (Or.inl ⟨by rfl, ?h3⟩) (by assumption) ?r3
  case h3 => (intro w hSw; (try dsimp only at hSw); (try obtain ⟨s1, s2⟩ := hSw); first | (go_simp; done) | (go_simp; with_reducible rfl))
  try simp only [Act.put, List.setIfInBounds_toArray, List.set_cons_zero, List.set_cons_succ]
  refine wpAnyH_take (i := 4) (v := ?v4) rfl (by kernel_rfl) (by kernel_rfl) (by kernel_rfl) (fun _ _ _ h => h) (Or.inl ⟨by rfl, ?h4⟩) (by assumption) ?r4
  case h4 => (intro w hSw; (try dsimp only at hSw); (try obtain ⟨s1, s2⟩ := hSw); first | (go_simp; done) | (go_simp; with_reducible rfl))
  try simp only [Act.put, List.setIfInBounds_toArray, List.set_cons_zero, List.set_cons_succ]
  refine wpAnyH_take (i := 5) (v := ?v5) rfl (by kernel_rfl) (by kernel_rfl) (by kernel_rfl) (fun _ _ _ h => h) (Or.inl ⟨by rfl, ?h5⟩) (by assumption) ?r5
  case h5 => (intro w hSw; (try dsimp only at hSw); (try obtain ⟨s1, s2⟩ := hSw); first | (go_simp; done) | (go_simp; with_reducible rfl))
  try simp only [Act.put, List.setIfInBounds_toArray, List.set_cons_zero, List.set_cons_succ]
  refine wpAnyH_take (i := 6) (v := undef) rfl (by kernel_rfl) (by kernel_rfl) (by kernel_rfl) (fun _ _ _ h => h) (Or.inr ⟨by kernel_rfl, rfl⟩) (by assumption) ?_
  refine wpAnyH_take (i := 7) (v := undef) rfl (by kernel_rfl) (by kernel_rfl) (by kernel_rfl) (fun _ _ _ h => h) (Or.inr ⟨by kernel_rfl, rfl⟩) (by assumption) ?_
  refine wpAnyH_take (i := 8) (v := undef) rfl (by kernel_rfl) (by kernel_rfl) (by kernel_rfl) (fun _ _ _ h => h) (Or.inr ⟨by kernel_rfl, rfl⟩) (by assumption) ?_
  refine wpAnyH_take (i := 9) (v := undef) rfl (by kernel_rfl) (by kernel_rfl) (by kernel_rfl) (fun _ _ _ h => h) (Or.inr ⟨by kernel_rfl, rfl⟩) (by assumption) ?_
  refine wpAnyH_take (i := 10) (v := undef) rfl (by kernel_rfl) (by kernel_rfl) (by kernel_rfl) (fun _ _ _ h => h) (Or.inr ⟨by kernel_rfl, rfl⟩) (by assumption) ?_
  refine wpAnyH_take (i := 11) (v := undef) rfl (by kernel_rfl) (by kernel_rfl) (by kernel_rfl) (fun _ _ _ h => h) (Or.inr ⟨by kernel_rfl, rfl⟩) (by assumption) ?_
  refine wpAnyH_take (i := 12) (v := undef) rfl (by kernel_rfl) (by kernel_rfl) (by kernel_rfl) (fun _ _ _ h => h) (Or.inr ⟨by kernel_rfl, rfl⟩) (by assumption) ?_
  refine wpAnyH_take (i := 13) (v := undef) rfl (by kernel_rfl) (by kernel_rfl) (by kernel_rfl) (fun _ _ _ h => h) (Or.inr ⟨by kernel_rfl, rfl⟩) (by assumption) ?_
  refine wpAnyH_take (i := 14) (v := undef) rfl (by kernel_rfl) (by kernel_rfl) (by kernel_rfl) (fun _ _ _ h => h) (Or.inr ⟨by kernel_rfl, rfl⟩) (by assumption) ?_
  refine wpAnyH_take (i := 15) (v := undef) rfl (by kernel_rfl) (by kernel_rfl) (by kernel_rfl) (fun _ _ _ h => h) (Or.inr ⟨by kernel_rfl, rfl⟩) (by assumption) ?_
  refine wpAnyH_take (i := 16) (v := undef) rfl (by kernel_rfl) (by kernel_rfl) (by kernel_rfl) (fun _ _ _ h => h) (Or.inr ⟨by kernel_rfl, rfl⟩) (by assumption) ?_
  refine wpAnyH_take (i := 17) (v := undef) rfl (by kernel_rfl) (by kernel_rfl) (by kernel_rfl) (fun _ _ _ h => h) (Or.inr ⟨by kernel_rfl, rfl⟩) (by assumption) ?_
  try simp only [Act.put, List.setIfInBounds_toArray, List.set_cons_zero, List.set_cons_succ]
  refine wpAnyH_take (i := 18) (v := ?v18) rfl (by kernel_rfl) (by kernel_rfl) (by kernel_rfl) (fun _ _ _ h => h) (Or.inl ⟨by kernel_rfl, ?h18⟩) (by assumption) ?r18
  case h18 => (intro w hSw; (try dsimp only at hSw); (try obtain ⟨s1, s2⟩ := hSw); first | (go_simp; done) | (go_simp; with_reducible rfl))
  try simp only [Act.put, List.setIfInBounds_toArray, List.set_cons_zero, List.set_cons_succ]
  refine wpAnyH_take (i := 19) (v := ?v19) rfl (by kernel_rfl) (by kernel_rfl) (by kernel_rfl) (fun _ _ _ h => h) (Or.inl ⟨by kernel_rfl, ?h19⟩) (by assumption) ?r19
  case h19 => (intro w hSw; (try dsimp only at hSw); (try obtain ⟨s1, s2⟩ := hSw); first | (go_simp; done) | (go_simp; with_reducible rfl))
  try simp only [Act.put, List.setIfInBounds_toArray, List.set_cons_zero, List.set_cons_succ]
  refine wpAnyH_take (i := 20) (v := ?v20) rfl (by kernel_rfl) (by kernel_rfl) (by kernel_rfl) (fun _ _ _ h => h) (Or.inl ⟨by kernel_rfl, ?h20⟩) (by assumption) ?r20
  case h20 => (intro w hSw; (try dsimp only at hSw); (try obtain ⟨s1, s2⟩ := hSw); first | (go_simp; done) | (go_simp; with_reducible rfl))
  try simp only [Act.put, List.setIfInBounds_toArray, List.set_cons_zero, List.set_cons_succ]
  refine wpAnyH_take (i := 22) (v := ?v22) rfl (by kernel_rfl) (by kernel_rfl) (by kernel_rfl) (fun _ _ _ h => h) (Or.inl ⟨by kernel_rfl, ?h22⟩) (by assumption) ?r22
  case h22 => (intro w hSw; (try dsimp only at hSw); (try obtain ⟨s1, s2⟩ := hSw); first | (go_simp; done) | (go_simp; with_reducible rfl))
  try simp only [Act.put, List.setIfInBounds_toArray, List.set_cons_zero, List.set_cons_succ]
  refine wpAnyH_take (i := 23) (v := ?v23) rfl (by kernel_rfl) (by kernel_rfl) (by kernel_rfl) (fun _ _ _ h => h) (Or.inl ⟨by kernel_rfl, ?h23⟩) (by assumption) ?r23
  case h23 => (intro w hSw; (try dsimp only at hSw); (try obtain ⟨s1, s2⟩ := hSw); first | (go_simp; done) | (go_simp; with_reducible rfl))
  try simp only [Act.put, List.setIfInBounds_toArray, List.set_cons_zero, List.set_cons_succ]
  refine wpAnyH_take (i := 24) (v := ?v24) rfl (by kernel_rfl) (by kernel_rfl) (by kernel_rfl) (fun _ _ _ h => h) (Or.inl ⟨by kernel_rfl, ?h24⟩) (by assumption) ?r24
  case h24 => (intro w hSw; (try dsimp only at hSw); (try obtain ⟨s1, s2⟩ := hSw); first | (go_simp; done) | (go_simp; with_reducible rfl))
  try simp only [Act.put, List.setIfInBounds_toArray, List.set_cons_zero, List.set_cons_succ]
  refine wpAnyH_take (i := 25) (v := ?v25) rfl (by kernel_rfl) (by kernel_rfl) (by kernel_rfl) (fun _ _ _ h => h) (Or.inl ⟨by kernel_rfl, ?h25⟩) (by assumption) ?r25
  case h25 => (intro w hSw; (try dsimp only at hSw); (try obtain ⟨s1, s2⟩ := hSw); first | (go_simp; done) | (go_simp; with_reducible rfl))
  try simp only [Act.put, List.setIfInBounds_toArray, List.set_cons_zero, List.set_cons_succ]
  refine wpAnyH_ready (rs := [21]) (by kernel_rfl) (by simp) ?_
  refine AllReadyH.cons rfl (fun K1 hK1 => ?_) AllReadyH.nil
  (go_simp; go_at_call 23; refine (al.out _ ((Only.refl Nil Z).drew)).mono ?_; rintro e w9 ⟨q9, rfl, h91, h92, h93, o9_⟩; go_wp2_with fail)
  have o9 : Only Nil Z w9 := ((Only.refl Nil Z).drew).trans o9_
  have ku := hd'.out _ o9
  refine hK1.out _ _ ?s91 (fun hHeld1 => ?_)
  case s91 => exact ku
  clear hK1 K1
  try simp only [Act.put, List.setIfInBounds_toArray, List.set_cons_zero, List.set_cons_succ]
  refine wpAnyH_ready (rs := [26]) (by kernel_rfl) (by simp) ?_
  refine AllReadyH.cons rfl (fun K2 hK2 => ?_) AllReadyH.nil
  (go_simp; go_at_call 22; refine (same_yes _ _ _ Lz h91 h93 (by rw [lenZ.out]; have := c9.out; have := b5.out; omega)).mono ?_; rintro e wS ⟨rfl, oS_⟩; go_wp2_with fail)
  have oS : Only Nil Z wS := o9.trans oS_
  have kv := hd'.out _ oS
  refine hK2.out _ _ ?s92 (fun hHeld2 => ?_)
  case s92 => exact kv
  clear hK2 K2
  try simp only [Act.put, List.setIfInBounds_toArray, List.set_cons_zero, List.set_cons_succ]
  refine wpAnyH_take (i := 27) (v := ?v27) rfl (by kernel_rfl) (by kernel_rfl) (by kernel_rfl) (fun _ _ _ h => h) (Or.inl ⟨by kernel_rfl, ?h27⟩) (by assumption) ?r27
  case h27 => (intro w hSw; (try dsimp only at hSw); (try obtain ⟨s1, s2⟩ := hSw); first | (go_simp; done) | (go_simp; with_reducible rfl))
  try simp only [Act.put, List.setIfInBounds_toArray, List.set_cons_zero, List.set_cons_succ]
  refine wpAnyH_take (i := 28) (v := ?v28) rfl (by kernel_rfl) (by kernel_rfl) (by kernel_rfl) (fun _ _ _ h => h) (Or.inl ⟨by kernel_rfl, ?h28⟩) (by assumption) ?r28
  case h28 => (intro w hSw; (try dsimp only at hSw); (try obtain ⟨s1, s2⟩ := hSw); first | (go_simp; done) | (go_simp; with_reducible rfl))
  try simp only [Act.put, List.setIfInBounds_toArray, List.set_cons_zero, List.set_cons_succ]
  refine wpAnyH_done (by kernel_rfl) ?_ _
  all_goals (
    have oS' := Lib.hid oS
    have fin := Lib.hid (fun w' (o : Only Nil Z w') => Pl.next (n' := i + 1) PZ.out TZ.out u2.out lenZ.out nm.out.1 nm.out.2.1 nm.out.2.2 (Nat.le_refl _) o)
    go_wp2_with (fail)
    go_roundw
    case rel => exact ⟨i + 1, by have := hi2.out; omega, by have := hi2.out; omega, by go_num, Lib.hid (fin.out _ (by first | exact oS'.out | exact oS'.out.drew | exact oS'.out.drewN _))⟩
    case measure => have := hi2.out; simp [intOf]; omega)
set_option linter.unusedSimpArgs false in
set_option maxRecDepth 100000 in
set_option maxHeartbeats 16000000 in
theorem rest_2 : playsSplit.Q := by
  intro x0_
  revert x0_
  set_option tactic.hygienic false in intros
  rw [hth2] at g1
  simp only [ptrOf] at g1
  have hz6 := hth2
  go_wp2_with (fail)
  clear g1 g2
  have nx := Lib.hid (fun w' (o : Only Nil Z w') => chk_next PZ.out TZ.out hp'.out hz6 (by have := hi2.out; omega) o)
  have lk := Lib.hid (fun w' (o : Only Nil Z w') => chk_like (b := b) TZ.out hp'.out hz6 (by have := hi2.out; omega) o)
  have al := Lib.hid (fun w' (o : Only Nil Z w') => chk_all PZ.out (by rw [lenZ.out]; have := c9.out; have := b5.out; omega) o)
  have hd : ∀ w', Only Nil Z w' → (w'.cell? ⟨pb, p, none⟩ = some (.pointer (some ⟨h.ob, 0, none⟩)) ∧ w'.cell? ⟨ab, 0, none⟩ = some (.int .i64 (b : Int)) ∧ w'.cell? ⟨ab, 1, none⟩ = some (.int .i64 (c : Int)) ∧ w'.cell? ⟨fb, p * 3, none⟩ = some (.int .i64 (h.kind : Int)) ∧ w'.cell? ⟨fb, p * 3 + 1, none⟩ = some (.int .u64 h.v) ∧ w'.cell? ⟨fb, p * 3 + 2, none⟩ = some (.slice h.a h.log.length h.cap) ∧ w'.cell? ⟨hw, 0, none⟩ = some (.slice (some ⟨rw_, 0, none⟩) Lz.length Lz.length)) := fun w' o => PZ.out.held hp'.out hz6 o
  have hd' := Lib.hid hd
  obtain ⟨s1, s2, s3, s4, s5, s6, s7⟩ := hd Z (Only.refl Nil Z)
  clear hd
  go_region_held3 (fun w' => w'.cell? ⟨pb, p, none⟩ = some (.pointer (some ⟨h.ob, 0, none⟩)) ∧ w'.cell? ⟨ab, 0, none⟩ = some (.int .i64 (b : Int)) ∧ w'.cell? ⟨ab, 1, none⟩ = some (.int .i64 (c : Int)) ∧ w'.cell? ⟨fb, p * 3, none⟩ = some (.int .i64 (h.kind : Int)) ∧ w'.cell? ⟨fb, p * 3 + 1, none⟩ = some (.int .u64 h.v) ∧ w'.cell? ⟨fb, p * 3 + 2, none⟩ = some (.slice h.a h.log.length h.cap) ∧ w'.cell? ⟨hw, 0, none⟩ = some (.slice (some ⟨rw_, 0, none⟩) Lz.length Lz.length))
    (first | exact ⟨s1, s2, s3, s4, s5, s6, s7⟩ | exact ks | exact kt | exact ku | exact kv | go_keep)
    (first
      | (go_at_call 21; go_loud (refine (nx.out _ ((Only.refl Nil Z).drewN _)).mono ?_; rintro e w7 ⟨rfl, o7_⟩; have o7 := ((Only.refl Nil Z).drewN _).trans o7_; have ks := hd'.out _ o7))
      | (go_at_call 20; go_loud (refine (lk.out _ o7).mono ?_; rintro e w8 ⟨rfl, o8_⟩; have o8 := o7.trans o8_; have kt := hd'.out _ o8))
      | (go_at_call 23; go_loud (refine (al.out _ o8).mono ?_; rintro e w9 ⟨q9, rfl, h91, h92, h93, o9_⟩; have o9 := o8.trans o9_; have ku := hd'.out _ o9))
      | (go_at_call 22; go_loud (refine (same_yes _ _ _ Lz h91 h93 (by rw [lenZ.out]; have := c9.out; have := b5.out; omega)).mono ?_; rintro e wS ⟨rfl, oS_⟩; have oS := o9.trans oS_; have kv := hd'.out _ oS)))
  all_goals (
    have oS' := Lib.hid oS
    have fin := Lib.hid (fun w' (o : Only Nil Z w') => Pl.next (n' := i + 1) PZ.out TZ.out u2.out lenZ.out nm.out.1 nm.out.2.1 nm.out.2.2 (Nat.le_refl _) o)
    go_wp2_with (fail)
    go_roundw
    case rel => exact ⟨i + 1, by have := hi2.out; omega, by have := hi2.out; omega, by go_num, Lib.hid (fin.out _ (by first | exact oS'.out | exact oS'.out.drew | exact oS'.out.drewN _))⟩
    case measure => have := hi2.out; simp [intOf]; omega)
set_option linter.unusedSimpArgs false in
set_option maxRecDepth 100000 in
set_option maxHeartbeats 16000000 in
theorem rest_3 : playsSplit.R := by
  intro x0_
  revert x0_
  set_option tactic.hygienic false in intros
  by_cases hkk : 1 ≤ kk ∧ kk ≤ 5
  · rw [show decide (1 ≤ kk ∧ kk ≤ 5) = true from decide_eq_true hkk]
    rcases hth : th p with _ | h
    · rw [hth] at g1
      simp only [ptrOf] at g1
      have bg := Lib.hid (T1.out.begun (p := p) hkk hv'.out P1.out.n0)
      rw [show idl none = true from rfl]
      have kk3 := Lib.hid hkk
      have kk4 : (1 : Int) ≤ (kk : Int) := by omega
      have kk5 : (kk : Int) ≤ 5 := by omega
      clear hkk
      go_wp2_with (first
      | (go_at_call 16; go_loud ((with_reducible refine (bg.out).mono ?_); rintro e w3 ⟨ob, rfl, o3, T3_, nob⟩; have T3 := Lib.hid T3_; have P3 := Lib.hid (P1.out.nil o3); have b3 := Lib.hid ((o3.block _ hz.out (fun z => z)).trans bO'.out); obtain ⟨g31, g32⟩ := P3.out.opc p hp'.out; have P4 := Lib.hid (P3.out.setOps p (.pointer (some ⟨ob, 0, none⟩))); obtain ⟨⟨g40, g41, g42⟩, g43, g44, g45⟩ := P4.out.rfc p hp'.out; have z42 : (w3.setCell ⟨pb, p, none⟩ (.pointer (some ⟨ob, 0, none⟩))).cell? ⟨wr.heap.size, 2, none⟩ = some (.int .u64 v) := cell_at (heap_setCell_far b3.out ⟨pb, p, none⟩ (by have := P'.out.ord; have := P'.out.n0; simp only; omega) (.pointer (some ⟨ob, 0, none⟩))) 2 rfl; have P5 := Lib.hid (P4.out.setRef p (.int .i64 (kk : Int)) (.int .u64 v) (.slice none 0 0)); have hp6 : (upd th p (some (⟨ob, begin kk v, kk, v, [], 0, none⟩ : Thr))) p = some ⟨ob, begin kk v, kk, v, [], 0, none⟩ := upd_same _ _ _; have P6' := Lib.hid (P5.out.th ⟨ob, begin kk v, kk, v, [], 0, none⟩ rfl rfl); have T6 := Lib.hid (T3.out.low (Only.two (pb := pb) (fb := fb) (p := p) (.pointer (some ⟨ob, 0, none⟩)) (.int .i64 (kk : Int)) (.int .u64 v) (.slice none 0 0)) (fun k z => by have := P'.out.ord; rcases z with z | z <;> omega)); obtain ⟨g51, g52⟩ := P6'.out.opc p hp'.out; simp only [hp6, ptrOf] at g51; clear T3_ o3)))
      go_meet
      exact ⟨rfl, Lib.hid ⟨L, t, t', _, P6'.out, T6.out.mono (by omega), u'.out.mono (by omega), nums.out.1, nums.out.2.1, by have := nums.out.2.2.1; omega, by have := nums.out.2.2.2; omega⟩⟩
    · rw [hth] at g1
      simp only [ptrOf] at g1
      have bg := Lib.hid (T1.out.begun (p := p) hkk hv'.out P1.out.n0)
      have kk3 := Lib.hid hkk
      have kk4 : (1 : Int) ≤ (kk : Int) := by omega
      have kk5 : (kk : Int) ≤ 5 := by omega
      clear hkk
      rcases hO : h.s.isO with _ | _
      · rw [show idl (some h) = false from hO]
        go_wp2_with (fail)
        have fin := Lib.hid (Pl.next (n' := i + 1) P1.out T1.out (u'.out.mono (by omega)) nums.out.1 nums.out.2.1 (by have := nums.out.2.2.1; omega) (by have := nums.out.2.2.2; omega) (by omega) (Only.refl Nil _))
        go_roundw
        case rel => exact ⟨i + 1, by have := hi2.out; omega, by have := hi2.out; omega, by go_num, fin⟩
        case measure => have := hi2.out; simp [intOf]; omega
      · rw [show idl (some h) = true from hO]
        go_wp2_with (first
      | (go_at_call 16; go_loud ((with_reducible refine (bg.out).mono ?_); rintro e w3 ⟨ob, rfl, o3, T3_, nob⟩; have T3 := Lib.hid T3_; have P3 := Lib.hid (P1.out.nil o3); have b3 := Lib.hid ((o3.block _ hz.out (fun z => z)).trans bO'.out); obtain ⟨g31, g32⟩ := P3.out.opc p hp'.out; have P4 := Lib.hid (P3.out.setOps p (.pointer (some ⟨ob, 0, none⟩))); obtain ⟨⟨g40, g41, g42⟩, g43, g44, g45⟩ := P4.out.rfc p hp'.out; have z42 : (w3.setCell ⟨pb, p, none⟩ (.pointer (some ⟨ob, 0, none⟩))).cell? ⟨wr.heap.size, 2, none⟩ = some (.int .u64 v) := cell_at (heap_setCell_far b3.out ⟨pb, p, none⟩ (by have := P'.out.ord; have := P'.out.n0; simp only; omega) (.pointer (some ⟨ob, 0, none⟩))) 2 rfl; have P5 := Lib.hid (P4.out.setRef p (.int .i64 (kk : Int)) (.int .u64 v) (.slice none 0 0)); have hp6 : (upd th p (some (⟨ob, begin kk v, kk, v, [], 0, none⟩ : Thr))) p = some ⟨ob, begin kk v, kk, v, [], 0, none⟩ := upd_same _ _ _; have P6' := Lib.hid (P5.out.th ⟨ob, begin kk v, kk, v, [], 0, none⟩ rfl rfl); have T6 := Lib.hid (T3.out.low (Only.two (pb := pb) (fb := fb) (p := p) (.pointer (some ⟨ob, 0, none⟩)) (.int .i64 (kk : Int)) (.int .u64 v) (.slice none 0 0)) (fun k z => by have := P'.out.ord; rcases z with z | z <;> omega)); obtain ⟨g51, g52⟩ := P6'.out.opc p hp'.out; simp only [hp6, ptrOf] at g51; clear T3_ o3)))
        go_meet
        exact ⟨rfl, Lib.hid ⟨L, t, t', _, P6'.out, T6.out.mono (by omega), u'.out.mono (by omega), nums.out.1, nums.out.2.1, by have := nums.out.2.2.1; omega, by have := nums.out.2.2.2; omega⟩⟩
  · rw [show decide (1 ≤ kk ∧ kk ≤ 5) = false from decide_eq_false hkk]
    rcases hth : th p with _ | h
    · rw [hth] at g1
      simp only [ptrOf] at g1
      clear hkk
      go_wp2_with (fail)
      go_meet
      exact ⟨rfl, Lib.hid ⟨L, t, t', th, P1.out, T1.out.mono (by omega), u'.out.mono (by omega), nums.out.1, nums.out.2.1, by have := nums.out.2.2.1; omega, by have := nums.out.2.2.2; omega⟩⟩
    · rw [hth] at g1
      simp only [ptrOf] at g1
      have tk := T1.out.thr p h hp'.out hth
      clear hkk
      obtain ⟨bx, hbx_⟩ : ∃ bx, (stepS b c L h.s).isO = bx := ⟨_, rfl⟩
      have hbx := Lib.hid hbx_
      have st := Lib.hid (st_dev P1.out T1.out hp'.out hth u'.out (by have := hi2.out; omega) (by have := nums.out.2.2.2; have := hi2.out; omega))
      rw [hbx_] at st
      have tc0 := Lib.hid (touched_any P1.out.rng.mem)
      have uZ := Lib.hid (okL_step (c := c) h.s tk.ok u'.out (by rw [nums.out.1]; omega) (by have := hi2.out; omega))
      have lenZ := Lib.hid ((stepL_length b c L h.s).trans nums.out.1)
      have tB : t < 1000000 := by have := nums.out.2.2.2; have := hi2.out; omega
      have tA : 0 ≤ t := P1.out.rng.t0
      clear hbx_ tk
      rcases hO : h.s.isO with _ | _
      all_goals (
        have eT : stepT h.s t = (if h.s.isO then t else t + 1) := rfl
        rw [hO] at eT
        simp only [if_true, Bool.false_eq_true, if_false] at eT
        first | rw [show idl (some h) = true from hO] | rw [show idl (some h) = false from hO]
        go_wp2_with (first
          | (go_at_call 17; (with_reducible refine (tc0.out).mono ?_); rintro e w2 ⟨rfl, rfl⟩)
          | (go_at_call 18; go_loud ((with_reducible refine (st.out).mono ?_); rintro e w4 ⟨rfl, Q4_, R4_, O4_⟩; have Q4 := Lib.hid Q4_; have O4 := Lib.hid O4_; have P4 := Lib.hid (P1.out.dev (T1.out.thr p h hp'.out hth).hob R4_ O4_); have tc4 := Lib.hid (touched_any P4.out.rng.mem); have ov4 := Lib.hid (overO Q4_ ((stepS_le h.s (T1.out.thr p h hp'.out hth).ok u'.out.2 u'.out.1).tk (by have := hi2.out; omega))); rw [eT] at tc4; rw [hbx.out] at ov4; obtain ⟨g41, g42⟩ := P4.out.opc p hp'.out; simp only [hth, ptrOf] at g41; obtain ⟨⟨r0, r1, r2⟩, r3, r4, r5⟩ := P4.out.rfc p hp'.out; simp only [hth, refC] at r0 r1 r2; obtain ⟨q0, q1⟩ := P4.out.atc; clear Q4_ R4_ O4_))
          | (go_at_call 17; go_loud ((with_reducible refine (tc4.out).mono ?_); rintro e w2 ⟨rfl, rfl⟩))
          | (go_at_call 15; go_loud ((with_reducible refine (ov4.out).mono ?_); rintro e w2 ⟨rfl, rfl⟩))))
      all_goals (
        have rs := Lib.hid (fun w' (o : Only Nil w4 w') => st_ref P1.out T1.out hp'.out hth u'.out nums.out.1 nums.out.2.1 (by have := nums.out.2.2.1; have := hi2.out; omega) (by have := hi2.out; omega) (Q4.out.keep o (fun z => z)) (P4.out.nil o) (O4.out.trans (o.nilTo _)))
        go_region_with ((go_at_call 19; go_loud (refine (rs.out _ (by first | exact (Only.refl Nil w4).drew | exact (Only.refl Nil w4).drewN _ | exact Only.refl Nil w4)).mono ?_; rintro e w6 ⟨l6, g6, c6, rfl, T6_, P6_⟩; have T6 := Lib.hid T6_; have P6 := Lib.hid P6_; obtain ⟨⟨v0, v1, v2⟩, v3, v4, v5⟩ := P6.out.rfc p hp'.out; simp only [hth, refC] at v0 v1 v2; have P7 := Lib.hid (P6.out.setRef p (.int .i64 (h.kind : Int)) (.int .u64 h.v) (.slice (g6.map fun g => ⟨g, 0, none⟩) l6.length c6)); have hp6 : (upd th p (some (⟨h.ob, stepS b c L h.s, h.kind, h.v, l6, c6, g6⟩ : Thr))) p = some ⟨h.ob, stepS b c L h.s, h.kind, h.v, l6, c6, g6⟩ := upd_same _ _ _; have P8 := Lib.hid (P7.out.th2 hth ⟨h.ob, stepS b c L h.s, h.kind, h.v, l6, c6, g6⟩ rfl rfl); have T8 := Lib.hid (T6.out.low (Only.one (fb := fb) (p := p) (.int .i64 (h.kind : Int)) (.int .u64 h.v) (.slice (g6.map fun g => ⟨g, 0, none⟩) l6.length c6)) (fun k z => by have := P'.out.ord; omega)); obtain ⟨g81, g82⟩ := P8.out.opc p hp'.out; simp only [hp6, ptrOf] at g81; clear T6_ P6_ P6 P7))))
      all_goals (
        go_wp2_with (fail)
        go_meet
        exact ⟨rfl, Lib.hid ⟨_, _, _, _, P8.out, T8.out, uZ.out, lenZ.out, by have := stepT_up h.s t'; have := nums.out.2.1; omega, by have := stepT_up h.s t'; have := nums.out.2.2.1; omega, by have := stepT_up h.s t; have := nums.out.2.2.2; omega⟩⟩)
theorem plays_walk  (k1 k2 : Int) (a : Option Addr) (cap : Nat) (S : List OpN) (b c : Nat) (w : World) (hc : 1 ≤ c ∧ c ≤ 9) (hb : b < 5) (e1 : 1 + k1 % 9 = (c : Int)) (e2 : k2 % 5 = (b : Int)) (hk : 0 ≤ k1 ∧ k1 < 256) (hk2 : 0 ≤ k2 ∧ k2 < 256) (hS : OpsIn w a S) (hok : OpsOk S) (hr : S.length * 16 ≤ 140737488351232) : Calls Try.prog 3 #[.int .u8 k1, .int .u8 k2, .slice a S.length cap] w fun e w' => e = .returned (.bool true) ∧ Below w.heap.size w w' := playsSplit.go (Lib.hid rest_1) (Lib.hid rest_2) (Lib.hid rest_3) k1 k2 a cap S b c w hc hb e1 e2 hk hk2 hS hok hr
theorem plays_all (k1 k2 : Int) (a : Option Addr) (cap : Nat) (S : List OpN) (w : World) (hk : 0 ≤ k1 ∧ k1 < 256) (hk2 : 0 ≤ k2 ∧ k2 < 256) (hS : OpsIn w a S) (hok : OpsOk S) (hr : S.length * 16 ≤ 140737488351232) :
    Calls Try.prog 3 #[.int .u8 k1, .int .u8 k2, .slice a S.length cap] w fun e w' => e = .returned (.bool true) ∧ Below w.heap.size w w' :=
  plays_walk k1 k2 a cap S (k2 % 5).toNat (1 + k1 % 9).toNat w (by omega) (by omega) (by omega) (by omega) hk hk2 hS hok hr
end Go.Proofs.Ytpnpbgcndlfobaa.Rp
