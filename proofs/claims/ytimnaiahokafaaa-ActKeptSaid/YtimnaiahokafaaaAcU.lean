/- act: ActKept. -/
import Derived.Test.YtimnaiahokafaaaAcO
import Derived.Test.YtimnaiahokafaaaAcR
import Derived.StillTailTactics
set_option linter.unusedVariables false
set_option linter.unusedSimpArgs false
namespace Go.Proofs.Ytimnaiahokafaaa.Ac
open Go Go.RowKit Go.Proofs.Ytimnaiahokafaaa Lx Ps Ch

/-! ### Rows of one's own that are written over: what stays -/
theorem putA_sz (vs : List Value) : ∀ (o : Nat) (cur : Array Value), (putA cur o vs).size = cur.size := by
  induction vs with
  | nil => intro o cur; rfl
  | cons v r ih => intro o cur; rw [putA, ih]; simp
structure Sim (w w' : World) : Prop where
  sz : w.heap.size ≤ w'.heap.size
  blk : ∀ (g : Nat) (cur : Array Value) (T : TypeId), w.heap[g]? = some (Obj.cells cur T (0, 0)) → ∃ cur' : Array Value, w'.heap[g]? = some (Obj.cells cur' T (0, 0)) ∧ cur'.size = cur.size ∧ (T = 40 → ∀ j, cur'[j * 4 + 3]? = cur[j * 4 + 3]?) ∧ (T = 48 → ∀ j, cur'[j * 2 + 1]? = cur[j * 2 + 1]?)
theorem Sim.refl (w : World) : Sim w w := ⟨Nat.le_refl _, fun g cur T h => ⟨cur, h, rfl, fun _ _ => rfl, fun _ _ => rfl⟩⟩
theorem Sim.trans {a b c : World} (h : Sim a b) (k : Sim b c) : Sim a c := ⟨Nat.le_trans h.sz k.sz, fun g cur T e => by
  obtain ⟨c1, e1, s1, r1, q1⟩ := h.blk g cur T e
  obtain ⟨c2, e2, s2, r2, q2⟩ := k.blk g c1 T e1
  exact ⟨c2, e2, s2.trans s1, fun t j => (r2 t j).trans (r1 t j), fun t j => (q2 t j).trans (q1 t j)⟩⟩
theorem Sim.set1 {w : World} {g o : Nat} {u : Value} {cur : Array Value} {T : TypeId} (h : w.heap[g]? = some (.cells cur T (0, 0))) (h1 : T = 40 → ∀ j, j * 4 + 3 ≠ o) (h2 : T = 48 → ∀ j, j * 2 + 1 ≠ o) : Sim w (w.setCell ⟨g, o, none⟩ u) := by
  have ho : Only (At g) w (w.setCell ⟨g, o, none⟩ u) := (Only.refl (At g) w).setCell (p := ⟨g, o, none⟩) rfl u
  refine ⟨ho.size, fun g' cur' T' e => ?_⟩
  by_cases hg : g' = g
  · subst hg
    rw [h] at e
    injection e with e; injection e with e1 e2
    subst e1; subst e2
    refine ⟨_, heap_setCell_self u h, by simp, fun t j => ?_, fun t j => ?_⟩
    · rw [Array.getElem?_setIfInBounds_ne (fun e => h1 t j e.symm)]
    · rw [Array.getElem?_setIfInBounds_ne (fun e => h2 t j e.symm)]
  · exact ⟨cur', (ho.block g' (lt_of_block e) (fun q => hg q)).trans e, rfl, fun _ _ => rfl, fun _ _ => rfl⟩
theorem Sim.setE {w : World} {g : Nat} {cur : Array Value} (h : w.heap[g]? = some (.cells cur 50 (0, 0))) (o : Nat) (vs : List Value) : Sim w (w.setCells g o vs) := by
  have ho : Only (At g) w (w.setCells g o vs) := only_setCells (S := At g) g rfl vs o w (Only.refl _ _)
  refine ⟨ho.size, fun g' cur' T' e => ?_⟩
  by_cases hg : g' = g
  · subst hg
    rw [h] at e
    injection e with e; injection e with e1 e2
    subst e1; subst e2
    exact ⟨_, setCells_row g' vs o w cur _ (0, 0) h, putA_sz vs o cur, fun t => absurd t (by decide), fun t => absurd t (by decide)⟩
  · exact ⟨cur', (ho.block g' (lt_of_block e) (fun q => hg q)).trans e, rfl, fun _ _ => rfl, fun _ _ => rfl⟩
theorem cell_blk {w : World} {g o : Nat} {cur : Array Value} {T : TypeId} {v : Value} (h : w.heap[g]? = some (.cells cur T (0, 0))) (hv : cur[o]? = some v) : w.cell? ⟨g, o, none⟩ = some v := by
  rw [cell_of_row w g o _ _ _ h]; exact hv
theorem some_at {cur : Array Value} {o : Nat} (h : o < cur.size) : ∃ u, cur[o]? = some u := ⟨cur[o], by simp [h]⟩
/-- Blocks from b on, below t. -/
def Tw (b t : Nat) (g : Nat) : Prop := b ≤ g ∧ g < t
def ShE (b t : Nat) (w : World) (v : Value) (n : Nat) : Prop := (∃ a c, v = .slice a n c) ∧ n ≤ 140737488355328 ∧ (0 < n → ∃ g c cur, v = .slice (some ⟨g, 0, none⟩) n c ∧ Tw b t g ∧ w.heap[g]? = some (.cells cur 50 (0, 0)) ∧ n * 7 ≤ cur.size)
def ShR (b t : Nat) (w : World) (v : Value) (n : Nat) : Prop := (∃ a c, v = .slice a n c) ∧ n ≤ 140737488355328 ∧ (0 < n → ∃ g c cur, v = .slice (some ⟨g, 0, none⟩) n c ∧ Tw b t g ∧ w.heap[g]? = some (.cells cur 40 (0, 0)) ∧ n * 4 ≤ cur.size ∧ ∀ j, j < n → ∃ sl m, cur[j * 4 + 3]? = some sl ∧ ShE b t w sl m)
def ShS (b t : Nat) (w : World) (v : Value) (n : Nat) : Prop := (∃ a c, v = .slice a n c) ∧ n ≤ 140737488355328 ∧ (0 < n → ∃ g c cur, v = .slice (some ⟨g, 0, none⟩) n c ∧ Tw b t g ∧ w.heap[g]? = some (.cells cur 48 (0, 0)) ∧ n * 2 ≤ cur.size ∧ ∀ i, i < n → ∃ sl m, cur[i * 2 + 1]? = some sl ∧ ShR b t w sl m)
theorem ShE.sim {b t : Nat} {w w' : World} {v : Value} {n : Nat} (h : ShE b t w v n) (s : Sim w w') : ShE b t w' v n := by
  obtain ⟨h1, h2, h3⟩ := h
  refine ⟨h1, h2, fun h0 => ?_⟩
  obtain ⟨g, c, cur, e, ht, hg, hz⟩ := h3 h0
  obtain ⟨cur', e', s', _, _⟩ := s.blk g cur _ hg
  exact ⟨g, c, cur', e, ht, e', by omega⟩
theorem ShR.sim {b t : Nat} {w w' : World} {v : Value} {n : Nat} (h : ShR b t w v n) (s : Sim w w') : ShR b t w' v n := by
  obtain ⟨h1, h2, h3⟩ := h
  refine ⟨h1, h2, fun h0 => ?_⟩
  obtain ⟨g, c, cur, e, ht, hg, hz, hj⟩ := h3 h0
  obtain ⟨cur', e', s', r', _⟩ := s.blk g cur _ hg
  refine ⟨g, c, cur', e, ht, e', by omega, fun j hjn => ?_⟩
  obtain ⟨sl, m, k1, k2⟩ := hj j hjn
  exact ⟨sl, m, (r' rfl j).trans k1, k2.sim s⟩
theorem ShS.sim {b t : Nat} {w w' : World} {v : Value} {n : Nat} (h : ShS b t w v n) (s : Sim w w') : ShS b t w' v n := by
  obtain ⟨h1, h2, h3⟩ := h
  refine ⟨h1, h2, fun h0 => ?_⟩
  obtain ⟨g, c, cur, e, ht, hg, hz, hj⟩ := h3 h0
  obtain ⟨cur', e', s', _, r'⟩ := s.blk g cur _ hg
  refine ⟨g, c, cur', e, ht, e', by omega, fun j hjn => ?_⟩
  obtain ⟨sl, m, k1, k2⟩ := hj j hjn
  exact ⟨sl, m, (r' rfl j).trans k1, k2.sim s⟩
theorem Sim.ofNil {w w' : World} (o : Only Nil w w') : Sim w w' := ⟨o.size, fun g cur T h => ⟨cur, (o.block g (lt_of_block h) (fun q => q.elim)).trans h, rfl, fun _ _ => rfl, fun _ _ => rfl⟩⟩
/-- A row of one's own, told by its block. -/
theorem own_blk {w : World} {lo s n c : Nat} {e : TypeId} {a : Option Addr} {xs : List Value} (h : w.ownsRow lo e s (.slice a n c) n xs) (h0 : 0 < n) : ∃ g cur, a = some ⟨g, 0, none⟩ ∧ w.heap[g]? = some (.cells cur e (0, 0)) ∧ n * s ≤ cur.size ∧ ∀ j, j < n * s → cur[j]? = xs[j]? := by
  rcases h.2 with ⟨_, e0⟩ | ⟨g, c', cur, hv, _, hg, hnc, _, hcs, ht⟩
  · omega
  · simp only [Value.slice.injEq] at hv
    obtain ⟨rfl, _, rfl⟩ := hv
    have hsz : n * s ≤ cur.size := by rw [hcs]; exact Nat.mul_le_mul_right _ hnc
    refine ⟨g, cur, rfl, hg, hsz, fun j hj => ?_⟩
    rw [← ht, List.getElem?_take, if_pos hj]
    simp
theorem sh_eff {w0 w : World} {v : Value} {E : List Eff} (h : MEff w v E) (hN : New w0 v) (hb : E.length ≤ 140737488355328) : ShE w0.heap.size w.heap.size w v E.length := by
  obtain ⟨a, c, rfl⟩ := own_slice_n h
  refine ⟨⟨a, c, rfl⟩, hb, fun h0 => ?_⟩
  obtain ⟨g, cur, rfl, hg, hz, _⟩ := own_blk h h0
  exact ⟨g, c, cur, rfl, ⟨hN g rfl, lt_of_block hg⟩, hg, hz⟩
theorem sh_row {w0 w : World} {v : Value} {R : List Rw} (h : FR w0 w v R) (hb : R.length ≤ 140737488355328) (hz : ∀ r ∈ R, bzR r) : ShR w0.heap.size w.heap.size w v R.length := by
  obtain ⟨Z, hZ, ho, hN, hi⟩ := h
  obtain ⟨a, c, rfl⟩ := own_slice_n ho
  refine ⟨⟨a, c, rfl⟩, hb, fun h0 => ?_⟩
  obtain ⟨g, cur, rfl, hg, hsz, hc⟩ := own_blk ho h0
  refine ⟨g, c, cur, rfl, ⟨hN g rfl, lt_of_block hg⟩, hg, hsz, fun j hj => ?_⟩
  have hl : Z.length = R.length := by rw [← hZ, List.length_map]
  have hjz : j < Z.length := by omega
  have hm := hi _ (List.getElem_mem hjz)
  have hin : Z[j].1 ∈ R := by rw [← hZ]; exact List.mem_map.2 ⟨_, List.getElem_mem hjz, rfl⟩
  refine ⟨Z[j].2, Z[j].1.effs.length, ?_, sh_eff hm.1 hm.2 (by have := hz _ hin; unfold bzR at this; omega)⟩
  rw [hc (j * 4 + 3) (by omega), flat_get rowCs 4 (fun _ => rfl) Z j 3 hjz (by decide)]
  rfl
theorem sh_sta {w0 w : World} {v : Value} {S : List Sta} (h : FS w0 w v S) (hb : S.length ≤ 140737488355328) (hz : ∀ s ∈ S, bzS s) : ShS w0.heap.size w.heap.size w v S.length := by
  obtain ⟨Z, hZ, ho, hN, hi⟩ := h
  obtain ⟨a, c, rfl⟩ := own_slice_n ho
  refine ⟨⟨a, c, rfl⟩, hb, fun h0 => ?_⟩
  obtain ⟨g, cur, rfl, hg, hsz, hc⟩ := own_blk ho h0
  refine ⟨g, c, cur, rfl, ⟨hN g rfl, lt_of_block hg⟩, hg, hsz, fun j hj => ?_⟩
  have hl : Z.length = S.length := by rw [← hZ, List.length_map]
  have hjz : j < Z.length := by omega
  have hm := hi _ (List.getElem_mem hjz)
  have hin : Z[j].1 ∈ S := by rw [← hZ]; exact List.mem_map.2 ⟨_, List.getElem_mem hjz, rfl⟩
  have hbs := hz _ hin
  refine ⟨Z[j].2, Z[j].1.rows.length, ?_, sh_row hm (by have := hbs.1; omega) hbs.2⟩
  rw [hc (j * 2 + 1) (by omega), flat_get staCs 2 (fun _ => rfl) Z j 1 hjz (by decide)]
  rfl
theorem kd_wf {P : List Kd} (h : wfP P) (s : Wd) : wfK ((P.find? (called s)).getD zK) := by
  cases hf : P.find? (called s) with
  | none => exact ⟨by unfold inW; decide, by unfold inW; decide, by decide, (fun y hy => nomatch hy), (fun y hy => nomatch hy)⟩
  | some x => exact h x (List.mem_of_find?_eq_some hf)
set_option maxHeartbeats 32000000 in
set_option maxRecDepth 100000 in
theorem kept_all {w : World} (P : List Kd) {sa : Option Addr} {nP sc : Nat} (hx : XK w.heap.size w (.slice sa nP sc) P) (hn : P.length = nP) (wf : wfP P) (bz : bzP P) (kd s t : Wd) :
    Calls Try.prog 10 #[.agg #[.slice sa nP sc], .string (bs kd), .string (bs s), .string (bs t)] w fun e w' => e = .returned (.bool true) ∧ Below w.heap.size w w' := by
  obtain ⟨W1, hW1⟩ : ∃ W, W = w.alloc (.cells #[.slice sa nP sc] 35) := ⟨_, rfl⟩
  have s1 : W1.heap.size = w.heap.size + 1 := by rw [hW1]; simp
  have o1 : Only Nil w W1 := hW1 ▸ (Only.refl Nil w).alloc _
  have b1 : Bx W1 (w.heap.size) [.slice sa nP sc] 35 := hW1 ▸ bx_new w _ _
  have X1 := Lib.hid b1
  have O := Lib.hid o1
  have SZ := Lib.hid s1
  have HA := Lib.hid (alive_any W1)
  have HX := Lib.hid (hx.keep O.out (nilS · _))
  have HFD := Lib.hid (fun (w' : World) (h : XK w.heap.size w' (.slice sa nP sc) P) (hs : w.heap.size ≤ w'.heap.size) => find_any h hn bz hs kd)
  have HZX := Lib.hid (kd_bz bz kd)
  have HWX := Lib.hid (kd_wf wf kd)
  obtain ⟨x, hx0⟩ : ∃ x, x = (P.find? (called kd)).getD zK := ⟨_, rfl⟩
  rw [← hx0] at HFD HZX HWX
  generalize (P.find? (called kd)).isSome = ok at *
  have HLE := Lib.hid (show w.heap.size < W1.heap.size from lt_of_block X1.out)
  have hp0 : ∃ p, p = planOf x.states s t 0 := ⟨_, rfl⟩
  clear hx hn wf bz hx0
  go_enter Try.func10, Try.ntmps10
  go_upto_region 1 with (fail)
  (try simp only [World.size_alloc])
  rw [← hW1]
  clear hW1 s1 o1 b1
  generalize hB1 : w.heap.size = B1 at *
  have HB1 := Lib.hid hB1
  clear hB1
  go_wp2_with fail
  refine HA.out.mono ?_
  rintro e w1 ⟨rfl, o1⟩
  have O1 := Lib.hid (O.out.trans o1)
  have Y1 := Lib.hid (X1.out.keep o1)
  have HX1 := Lib.hid (HX.out.keep o1 (nilS · _))
  have HW1 := Lib.hid O1.out.size
  have HL1 := Lib.hid (show B1 < w1.heap.size from Nat.lt_of_lt_of_le HLE.out o1.size)
  have k0 := Y1.out.cell 0 (v := .slice sa nP sc) rfl
  have HF1 := Lib.hid (HFD.out w1 HX1.out (Nat.le_of_lt HL1.out))
  clear o1 HA X1 HX HLE
  go_wp2_with fail
  refine HF1.out.mono ?_
  rintro e w2 ⟨hr, o2⟩
  obtain ⟨b1, d1, b2, d2, rfl, _, hF⟩ := hr.out
  have hSH := sh_sta hF (by have := HZX.out.2.1; omega) HZX.out.2.2
  have hS : SIn w2.heap.size w2 b2 x.states.length d2 x.states := ⟨hF.x, rfl, by have := HZX.out.2.1; omega, HWX.out.states, HZX.out.2.2, Nat.le_refl _⟩
  have hnSi : (x.states.length : Int) ≤ 140737488355328 := by have := HZX.out.2.1; omega
  generalize hnS : x.states.length = nS at *
  generalize hn1 : x.cases.length = n1 at *
  have HNS := Lib.hid hnS
  have HN1 := Lib.hid hn1
  obtain ⟨w3, hw3⟩ : ∃ w3, w3 = w2.alloc (.cells #[.string (bs x.name), .int .i64 x.limit, .int .i64 x.within, .slice b1 n1 d1, .slice b2 nS d2] 25) := ⟨_, rfl⟩
  have o3 : Only Nil w2 w3 := hw3 ▸ (Only.refl Nil w2).alloc _
  have BK := Lib.hid (show Bx w3 w2.heap.size [.string (bs x.name), .int .i64 x.limit, .int .i64 x.within, .slice b1 n1 d1, .slice b2 nS d2] 25 from hw3 ▸ bx_new w2 [.string (bs x.name), .int .i64 x.limit, .int .i64 x.within, .slice b1 n1 d1, .slice b2 nS d2] _)
  have HS3 := Lib.hid (hS.keep o3)
  have HSH := Lib.hid (hSH.sim (Sim.ofNil o3))
  have O3 := Lib.hid (O1.out.trans (o2.trans o3))
  have Y3 := Lib.hid (Y1.out.keep (o2.trans o3))
  have HX3 := Lib.hid (HX1.out.keep (o2.trans o3) (nilS · _))
  have HB13 := Lib.hid o2.size
  have HB23 := Lib.hid (show w2.heap.size < w3.heap.size from lt_of_block BK.out)
  have HFx := Lib.hid (show w1.heap.size ≤ w1.heap.size from Nat.le_refl _)
  clear hr hF hSH hS hnS hn1 o2 o3 k0 HF1 HFx
  go_upto_region 4 with (fail)
  rw [← hw3]; clear hw3
  generalize w2.heap.size = t0 at *
  have HD := Lib.hid (do_any (nm := x.name) (lim := x.limit) (wi := x.within) (v1 := .slice b1 n1 d1) HS3.out s t 0 (by unfold inW; decide))
  have HPZ : Hid ((planOf x.states s t 0).effs.length * 80 ≤ 140737488355328) := Lib.hid (by
    have h1 := doE_len 0 (rowOf x.states s t 0).effs s
    have h2 := row_bz HS3.out.bz s t 0
    unfold planOf; omega)
  have HPD := Lib.hid (fun (w' : World) (a : Option Addr) (c D : Nat) (v1 : Value) (h : SIn D w' a nS c x.states) => do_any (nm := x.name) (lim := x.limit) (wi := x.within) (v1 := v1) h s t 0 (by unfold inW; decide))
  generalize planOf x.states s t 0 = p at *
  have q0 := BK.out.cell 0 (v := .string (bs x.name)) rfl
  have q1 := BK.out.cell 1 (v := .int .i64 x.limit) rfl
  have q2 := BK.out.cell 2 (v := .int .i64 x.within) rfl
  have q3 := BK.out.cell 3 (v := .slice b1 n1 d1) rfl
  have q4 := BK.out.cell 4 (v := .slice b2 nS d2) rfl
  go_wp2_with fail
  refine HD.out.mono ?_
  rintro e w4 ⟨hr, o4⟩
  obtain ⟨v, rfl, hM, hNw⟩ := hr.out
  obtain ⟨ua, uc, rfl⟩ := own_slice_n hM
  obtain ⟨w5, hw5⟩ : ∃ w5, w5 = w4.alloc (.cells #[.bool p.stash, .slice ua p.effs.length uc, .string (bs p.state), .bool p.stop, .string (bs p.fail)] 30) := ⟨_, rfl⟩
  have o5 : Only Nil w4 w5 := hw5 ▸ (Only.refl Nil w4).alloc _
  have BW := Lib.hid (show Bx w5 w4.heap.size [.bool p.stash, .slice ua p.effs.length uc, .string (bs p.state), .bool p.stop, .string (bs p.fail)] 30 from hw5 ▸ bx_new w4 [.bool p.stash, .slice ua p.effs.length uc, .string (bs p.state), .bool p.stop, .string (bs p.fail)] _)
  have M5 := Lib.hid (MEff.keep (t := 25) hM o5 (ofT_nil _ _) (by decide))
  have HM5 := Lib.hid (show New w3 (.slice ua p.effs.length uc) from hNw)
  have HML := Lib.hid (fun g (hg : RowOf ua g) => show g < w4.heap.size from row_lt hM hg)
  have BK5 := Lib.hid (BK.out.keep (o4.trans o5))
  have Y5 := Lib.hid (Y3.out.keep (o4.trans o5))
  have HX5 := Lib.hid (HX3.out.keep (o4.trans o5) (nilS · _))
  have HSH5 := Lib.hid (HSH.out.sim (Sim.ofNil (o4.trans o5)))
  have O5 := Lib.hid (O3.out.trans (o4.trans o5))
  have HB35 := Lib.hid (o4.trans o5).size
  have HB34 := Lib.hid o4.size
  have HB45 := Lib.hid (show w4.heap.size < w5.heap.size from lt_of_block BW.out)
  simp only [plC]
  clear hr hM hNw o4 o5 q0 q1 q2 q3 q4 HD BK Y3 HX3 HSH O3 HS3
  go_upto_region 5 with (fail)
  rw [← hw5]; clear hw5
  generalize w4.heap.size = Bw at *
  obtain ⟨_, hnSb, hSg⟩ := HSH5.out
  have HSG := Lib.hid hSg
  clear hSg hnSb
  go_wp2
  go_loopw [12] (fun s12 wr => ∃ (i : Nat), i ≤ nS ∧ s12 = .int .i64 (i : Int) ∧ Hid (Sim w5 wr) ∧ Hid (Only (Tw w1.heap.size t0) w5 wr)) (fun s12 _ => nS - (intOf s12).toNat)
  case atStart => exact ⟨0, Nat.zero_le _, rfl, Lib.hid (Sim.refl _), Lib.hid (Only.refl _ _)⟩
  case round =>
    obtain ⟨i, hi, rfl, hSm, hO⟩ := hrel
    have HNB := Lib.hid (show ∀ q, t0 ≤ q → ¬ Tw w1.heap.size t0 q from fun q hq h => by have := h.2; omega)
    have bk := BK5.out
    have b4 : wr.cell? ⟨t0, 4, none⟩ = some (.slice b2 nS d2) := only_cellS hO.out (HNB.out t0 (Nat.le_refl _)) (BK5.out.cell 4 rfl)
    clear bk
    by_cases hin : i < nS
    · obtain ⟨gS, cS, curS, hb2, hTS, hgS, hzS, hjS⟩ := HSG.out (by omega)
      simp only [Value.slice.injEq] at hb2
      obtain ⟨rfl, _, rfl⟩ := hb2
      obtain ⟨sl, m, hsl, hR⟩ := hjS i hin
      obtain ⟨⟨ra, rc, rfl⟩, hmb, hRg⟩ := hR
      have HKS := Lib.hid (show ∀ w', Sim w5 w' → ∃ cur', w'.heap[gS]? = some (.cells cur' 48 (0, 0)) ∧ cur'.size = curS.size ∧ cur'[i * 2 + 1]? = some (.slice ra m rc) from fun w' h => by
        obtain ⟨c', h1, h2, _, h4⟩ := h.blk gS curS _ hgS
        exact ⟨c', h1, h2, (h4 rfl i).trans hsl⟩)
      have HZS := Lib.hid (show i * 2 < curS.size from by omega)
      have HTS := Lib.hid hTS
      have HRG := Lib.hid hRg
      have hmi : (m : Int) ≤ 140737488355328 := by omega
      have hini : (i : Int) < (nS : Int) := by omega
      have h0i : (0 : Int) ≤ (i : Int) := Int.natCast_nonneg i
      have HI := Lib.hid hin
      have HBK := Lib.hid (show ∀ w', Only (Tw w1.heap.size t0) w5 w' → w'.cell? ⟨t0, 4, none⟩ = some (.slice (some ⟨gS, 0, none⟩) nS d2) from fun w' o => only_cellS o (HNB.out t0 (Nat.le_refl _)) (BK5.out.cell 4 rfl))
      clear hsl hjS hgS hzS hTS hRg hin hi
      go_upto_region 8 with (fail)
      clear b4
      generalize hwo : wr = wo at *
      clear hwo
      go_wp2
      go_loopw [13] (fun s13 wr => ∃ (j : Nat), j ≤ m ∧ s13 = .int .i64 (j : Int) ∧ Hid (Sim w5 wr) ∧ Hid (Only (Tw w1.heap.size t0) w5 wr)) (fun s13 _ => m - (intOf s13).toNat)
      case atStart => exact ⟨0, Nat.zero_le _, rfl, hSm, hO⟩
      case round =>
        obtain ⟨j, hj, rfl, hSj, hOj⟩ := hrel
        have b4 := HBK.out wr hOj.out
        obtain ⟨cS', hcS1, hcS2, hcS3⟩ := HKS.out wr hSj.out
        have c1 : wr.cell? ⟨gS, i * 2 + 1, none⟩ = some (.slice ra m rc) := cell_blk hcS1 hcS3
        by_cases hjm : j < m
        · obtain ⟨gR, cR, curR, hra, hTR, hgR, hzR, hlR⟩ := HRG.out (by omega)
          simp only [Value.slice.injEq] at hra
          obtain ⟨rfl, _, rfl⟩ := hra
          obtain ⟨sl, z, hsl, hE⟩ := hlR j hjm
          obtain ⟨⟨ea, ec, rfl⟩, hzb, hEg⟩ := hE
          have HKR := Lib.hid (show ∀ w', Sim w5 w' → ∃ cur', w'.heap[gR]? = some (.cells cur' 40 (0, 0)) ∧ cur'.size = curR.size ∧ cur'[j * 4 + 3]? = some (.slice ea z ec) from fun w' h => by
            obtain ⟨c', h1, h2, h3, _⟩ := h.blk gR curR _ hgR
            exact ⟨c', h1, h2, (h3 rfl j).trans hsl⟩)
          have HZR := Lib.hid (show j * 4 < curR.size from by omega)
          have HTR := Lib.hid hTR
          have HEG := Lib.hid hEg
          have hzi : (z : Int) ≤ 140737488355328 := by omega
          have hjmi : (j : Int) < (m : Int) := by omega
          have h0j : (0 : Int) ≤ (j : Int) := Int.natCast_nonneg j
          have HJ := Lib.hid hjm
          clear hsl hlR hgR hzR hTR hEg hjm hj hcS1 hcS2 hcS3
          go_upto_region 11 with (fail)
          clear b4 c1
          generalize hwm : wr = wm at *
          clear hwm
          go_wp2
          go_loopw [14] (fun s14 wr => ∃ (l : Nat), l ≤ z ∧ s14 = .int .i64 (l : Int) ∧ Hid (Sim w5 wr) ∧ Hid (Only (Tw w1.heap.size t0) w5 wr)) (fun s14 _ => z - (intOf s14).toNat)
          case atStart => exact ⟨0, Nat.zero_le _, rfl, hSj, hOj⟩
          case round =>
            obtain ⟨l, hl, rfl, hSl, hOl⟩ := hrel
            have b4 := HBK.out wr hOl.out
            obtain ⟨cS', hcS1, hcS2, hcS3⟩ := HKS.out wr hSl.out
            have c1 : wr.cell? ⟨gS, i * 2 + 1, none⟩ = some (.slice (some ⟨gR, 0, none⟩) m rc) := cell_blk hcS1 hcS3
            obtain ⟨cR', hcR1, hcR2, hcR3⟩ := HKR.out wr hSl.out
            have c3 : wr.cell? ⟨gR, j * 4 + 3, none⟩ = some (.slice ea z ec) := cell_blk hcR1 hcR3
            by_cases hlz : l < z
            · obtain ⟨gE, cE, curE, hea, hTE, hgE, hzE⟩ := HEG.out (by omega)
              simp only [Value.slice.injEq] at hea
              obtain ⟨rfl, _, rfl⟩ := hea
              obtain ⟨cE', hE1, hE2, _, _⟩ := hSl.out.blk gE curE _ hgE
              obtain ⟨y0, hy0⟩ := some_at (cur := cE') (o := l * 7) (by omega)
              have e0 := cell_blk hE1 hy0
              have f0 : wr.frozen? ⟨gE, l * 7, none⟩ = false := frozen_blk hE1 _
              obtain ⟨y1, hy1⟩ := some_at (cur := cE') (o := l * 7 + 1) (by omega)
              have e1 := cell_blk hE1 hy1
              have f1 : wr.frozen? ⟨gE, l * 7 + 1, none⟩ = false := frozen_blk hE1 _
              obtain ⟨y2, hy2⟩ := some_at (cur := cE') (o := l * 7 + 2) (by omega)
              have e2 := cell_blk hE1 hy2
              have f2 : wr.frozen? ⟨gE, l * 7 + 2, none⟩ = false := frozen_blk hE1 _
              obtain ⟨y3, hy3⟩ := some_at (cur := cE') (o := l * 7 + 3) (by omega)
              have e3 := cell_blk hE1 hy3
              have f3 : wr.frozen? ⟨gE, l * 7 + 3, none⟩ = false := frozen_blk hE1 _
              obtain ⟨y4, hy4⟩ := some_at (cur := cE') (o := l * 7 + 4) (by omega)
              have e4 := cell_blk hE1 hy4
              have f4 : wr.frozen? ⟨gE, l * 7 + 4, none⟩ = false := frozen_blk hE1 _
              obtain ⟨y5, hy5⟩ := some_at (cur := cE') (o := l * 7 + 5) (by omega)
              have e5 := cell_blk hE1 hy5
              have f5 : wr.frozen? ⟨gE, l * 7 + 5, none⟩ = false := frozen_blk hE1 _
              obtain ⟨y6, hy6⟩ := some_at (cur := cE') (o := l * 7 + 6) (by omega)
              have e6 := cell_blk hE1 hy6
              have f6 : wr.frozen? ⟨gE, l * 7 + 6, none⟩ = false := frozen_blk hE1 _
              have hlzi : (l : Int) < (z : Int) := by omega
              have h0l : (0 : Int) ≤ (l : Int) := Int.natCast_nonneg l
              have HLZ := Lib.hid hlz
              have S9 := Lib.hid (hSl.out.trans (Sim.setE hE1 (l * 7) [.int .i64 5, .string ⟨#[]⟩, .string ⟨#[]⟩, .string ⟨#[]⟩, .int .i64 0, .int .i64 0, .int .i64 0]))
              have O9 := Lib.hid (only_setCells (S := Tw w1.heap.size t0) gE hTE [.int .i64 5, .string ⟨#[]⟩, .string ⟨#[]⟩, .string ⟨#[]⟩, .int .i64 0, .int .i64 0, .int .i64 0] (l * 7) wr hOl.out)
              clear hy0 hy1 hy2 hy3 hy4 hy5 hy6 hE1 hE2 hcS1 hcS2 hcS3 hcR1 hcR2 hcR3 hgE hzE hTE hlz hl
              go_wp2
              go_roundw
              case rel => exact ⟨l + 1, HLZ.out, by go_num, S9, O9⟩
              case measure => have := HLZ.out; simp [intOf]; omega
            · obtain rfl : z = l := by omega
              have hk0 : ¬ (z : Int) < (z : Int) := by omega
              obtain ⟨y0, hy0⟩ := some_at (cur := cR') (o := j * 4) (by have := HZR.out; omega)
              have e0 := cell_blk hcR1 hy0
              have f0 : wr.frozen? ⟨gR, j * 4, none⟩ = false := frozen_blk hcR1 _
              have S9 := Lib.hid (hSl.out.trans (Sim.set1 (o := j * 4) (u := .string ⟨#[63]⟩) hcR1 (fun _ j' => by omega) (fun h => absurd h (by decide))))
              have O9 := Lib.hid (hOl.out.setCell (p := ⟨gR, j * 4, none⟩) HTR.out (.string ⟨#[63]⟩))
              clear hy0 hcS1 hcS2 hcS3 hcR1 hcR2 hcR3 hlz
              go_wp2
              go_roundw
              case rel => exact ⟨j + 1, HJ.out, by go_num, S9, O9⟩
              case measure => have := HJ.out; simp [intOf]; omega
        · obtain rfl : m = j := by omega
          have hk0 : ¬ (m : Int) < (m : Int) := by omega
          obtain ⟨y0, hy0⟩ := some_at (cur := cS') (o := i * 2) (by have := HZS.out; omega)
          have e0 := cell_blk hcS1 hy0
          have f0 : wr.frozen? ⟨gS, i * 2, none⟩ = false := frozen_blk hcS1 _
          have S9 := Lib.hid (hSj.out.trans (Sim.set1 (o := i * 2) (u := .string ⟨#[63]⟩) hcS1 (fun h => absurd h (by decide)) (fun _ j' => by omega)))
          have O9 := Lib.hid (hOj.out.setCell (p := ⟨gS, i * 2, none⟩) HTS.out (.string ⟨#[63]⟩))
          clear hy0 hcS1 hcS2 hcS3 hjm
          go_wp2
          go_roundw
          case rel => exact ⟨i + 1, HI.out, by go_num, S9, O9⟩
          case measure => have := HI.out; simp [intOf]; omega
    · obtain rfl : nS = i := by omega
      have hk0 : ¬ (nS : Int) < (nS : Int) := by omega
      have HXr := Lib.hid (HX5.out.keep hO.out (fun b hb h => by have := h.1; have := HL1.out; omega))
      have Yr := Lib.hid (show Bx wr B1 [.slice sa nP sc] 35 from (hO.out.block B1 (lt_of_block Y5.out) (fun h => by have := h.1; have := HL1.out; omega)).trans Y5.out)
      have BWr := Lib.hid (show Bx wr Bw [.bool p.stash, .slice ua p.effs.length uc, .string (bs p.state), .bool p.stop, .string (bs p.fail)] 30 from (hO.out.block Bw (lt_of_block BW.out) (fun h => by have := h.2; have := HB34.out; have := HB23.out; omega)).trans BW.out)
      have Mr := Lib.hid (show MEff wr (.slice ua p.effs.length uc) p.effs from own_keep M5.out hO.out (fun g hg h => by
        cases ua with
        | none => simp [Value.ownBlock] at hg
        | some ad => simp [Value.ownBlock] at hg; have h1 := HM5.out ad.block rfl; have := h.2; have := HB23.out; omega))
      have Oq := Lib.hid (O5.out.then hO.out (fun g hg hlt => by have := hg.1; have := HW1.out; omega))
      have HMr := Lib.hid (fun g (hg : RowOf ua g) => show g < wr.heap.size from Nat.lt_of_lt_of_le (HML.out g hg) (Nat.le_trans (Nat.le_of_lt HB45.out) hO.out.size))
      have k0 := Yr.out.cell 0 (v := .slice sa nP sc) rfl
      have HBr := Lib.hid (show Bw < wr.heap.size from lt_of_block BWr.out)
      have HF2 := Lib.hid (HFD.out wr HXr.out (by have := lt_of_block Yr.out; omega))
      clear hin hi hSm hO HSG HSH5 BK5 Y5 HX5 BW M5 O5
      generalize wr = w6 at *
      go_wp2_with fail
      refine HF2.out.mono ?_
      rintro e w7 ⟨hr, o7⟩
      obtain ⟨f1, h1, f2, h2, he, _, hF⟩ := hr.out
      subst he
      have hS : SIn w7.heap.size w7 f2 nS h2 x.states := ⟨hF.x, HNS.out, by have := HZX.out.2.1; omega, HWX.out.states, HZX.out.2.2, Nat.le_refl _⟩
      obtain ⟨w8, hw8⟩ : ∃ w8, w8 = w7.alloc (.cells #[.string (bs x.name), .int .i64 x.limit, .int .i64 x.within, .slice f1 n1 h1, .slice f2 nS h2] 25) := ⟨_, rfl⟩
      have o8 : Only Nil w7 w8 := hw8 ▸ (Only.refl Nil w7).alloc _
      have BL := Lib.hid (show Bx w8 w7.heap.size [.string (bs x.name), .int .i64 x.limit, .int .i64 x.within, .slice f1 n1 h1, .slice f2 nS h2] 25 from hw8 ▸ bx_new w7 [.string (bs x.name), .int .i64 x.limit, .int .i64 x.within, .slice f1 n1 h1, .slice f2 nS h2] _)
      have HS8 := Lib.hid (hS.keep o8)
      have BW8 := Lib.hid (BWr.out.keep (o7.trans o8))
      have M8 := Lib.hid (MEff.keep (t := 25) Mr.out (o7.trans o8) (ofT_nil _ _) (by decide))
      have O8 := Lib.hid (Oq.out.trans (o7.trans o8))
      have HM8 := Lib.hid (fun g (hg : RowOf ua g) => show g < w8.heap.size from Nat.lt_of_lt_of_le (HMr.out g hg) (o7.trans o8).size)
      have HB8 := Lib.hid (show Bw < w8.heap.size from lt_of_block BW8.out)
      have HL8 := Lib.hid (show w7.heap.size < w8.heap.size from lt_of_block BL.out)
      clear hr hF hS o7 o8 k0 b4 HF2 HXr Yr BWr Mr Oq HMr HBr
      go_upto_region 18 with (fail)
      rw [← hw8]; clear hw8
      generalize w7.heap.size = Bb at *
      have HD8 := Lib.hid (HPD.out w8 f2 h2 Bb (.slice f1 n1 h1) HS8.out)
      have q0 := BL.out.cell 0 (v := .string (bs x.name)) rfl
      have q1 := BL.out.cell 1 (v := .int .i64 x.limit) rfl
      have q2 := BL.out.cell 2 (v := .int .i64 x.within) rfl
      have q3 := BL.out.cell 3 (v := .slice f1 n1 h1) rfl
      have q4 := BL.out.cell 4 (v := .slice f2 nS h2) rfl
      go_wp2_with fail
      refine HD8.out.mono ?_
      rintro e w9 ⟨hr, o9⟩
      obtain ⟨v, rfl, hM, hNw⟩ := hr.out
      obtain ⟨va, vc, rfl⟩ := own_slice_n hM
      obtain ⟨wA, hwA⟩ : ∃ wA, wA = w9.alloc (.cells #[.bool p.stash, .slice va p.effs.length vc, .string (bs p.state), .bool p.stop, .string (bs p.fail)] 30) := ⟨_, rfl⟩
      have oA : Only Nil w9 wA := hwA ▸ (Only.refl Nil w9).alloc _
      have BG := Lib.hid (show Bx wA w9.heap.size [.bool p.stash, .slice va p.effs.length vc, .string (bs p.state), .bool p.stop, .string (bs p.fail)] 30 from hwA ▸ bx_new w9 [.bool p.stash, .slice va p.effs.length vc, .string (bs p.state), .bool p.stop, .string (bs p.fail)] _)
      have hMA : MEff wA (.slice va p.effs.length vc) p.effs := MEff.keep (t := 25) hM oA (ofT_nil _ _) (by decide)
      have HEA := Lib.hid (fun (h0 : 0 < p.effs.length) => own_blk hMA h0)
      have HNA := Lib.hid (show ∀ g, RowOf va g → w8.heap.size ≤ g ∧ g < w9.heap.size from fun g hg => ⟨by obtain ⟨y, rfl, rfl⟩ := hg; exact hNw y.block rfl, row_lt hM hg⟩)
      have BLA := Lib.hid (BL.out.keep (o9.trans oA))
      have BWA := Lib.hid (BW8.out.keep (o9.trans oA))
      have MA := Lib.hid (MEff.keep (t := 25) M8.out (o9.trans oA) (ofT_nil _ _) (by decide))
      have OA' := Lib.hid (O8.out.trans (o9.trans oA))
      have HSA := Lib.hid (HS8.out.keep (o9.trans oA))
      have HO9 := Lib.hid o9.size
      have HOW := Lib.hid (show w.heap.size ≤ w8.heap.size from O8.out.size)
      simp only [plC]
      clear hr hM hNw hMA o9 oA q0 q1 q2 q3 q4 HD8 BL BW8 M8 O8 HS8
      go_upto_region 19 with (fail)
      rw [← hwA]; clear hwA
      generalize w9.heap.size = Bg at *
      have hzi : (p.effs.length : Int) ≤ 140737488355328 := by have := HPZ.out; omega
      generalize hz : p.effs.length = z at *
      have HZ := Lib.hid hz
      clear hz
      go_wp2
      go_loopw [18] (fun s18 wr => ∃ (l : Nat), l ≤ z ∧ s18 = .int .i64 (l : Int) ∧ Hid (Sim wA wr) ∧ Hid (Only (RowOf va) wA wr)) (fun s18 _ => z - (intOf s18).toNat)
      case atStart => exact ⟨0, Nat.zero_le _, rfl, Lib.hid (Sim.refl _), Lib.hid (Only.refl _ _)⟩
      case round =>
        obtain ⟨l, hl, rfl, hSl, hOl⟩ := hrel
        have HNG := Lib.hid (show ∀ q, Bg ≤ q → ¬ RowOf va q from fun q hq h => by have := (HNA.out q h).2; omega)
        have c1 : wr.cell? ⟨Bg, 1, none⟩ = some (.slice va z vc) := only_cellS hOl.out (HNG.out Bg (Nat.le_refl _)) (BG.out.cell 1 rfl)
        by_cases hlz : l < z
        · obtain ⟨gE, curE, hea, hgE, hzE, _⟩ := HEA.out (by omega)
          subst hea
          obtain ⟨cE', hE1, hE2, _, _⟩ := hSl.out.blk gE curE _ hgE
          obtain ⟨y0, hy0⟩ := some_at (cur := cE') (o := l * 7) (by omega)
          have e0 := cell_blk hE1 hy0
          have f0 : wr.frozen? ⟨gE, l * 7, none⟩ = false := frozen_blk hE1 _
          obtain ⟨y1, hy1⟩ := some_at (cur := cE') (o := l * 7 + 1) (by omega)
          have e1 := cell_blk hE1 hy1
          have f1 : wr.frozen? ⟨gE, l * 7 + 1, none⟩ = false := frozen_blk hE1 _
          obtain ⟨y2, hy2⟩ := some_at (cur := cE') (o := l * 7 + 2) (by omega)
          have e2 := cell_blk hE1 hy2
          have f2 : wr.frozen? ⟨gE, l * 7 + 2, none⟩ = false := frozen_blk hE1 _
          obtain ⟨y3, hy3⟩ := some_at (cur := cE') (o := l * 7 + 3) (by omega)
          have e3 := cell_blk hE1 hy3
          have f3 : wr.frozen? ⟨gE, l * 7 + 3, none⟩ = false := frozen_blk hE1 _
          obtain ⟨y4, hy4⟩ := some_at (cur := cE') (o := l * 7 + 4) (by omega)
          have e4 := cell_blk hE1 hy4
          have f4 : wr.frozen? ⟨gE, l * 7 + 4, none⟩ = false := frozen_blk hE1 _
          obtain ⟨y5, hy5⟩ := some_at (cur := cE') (o := l * 7 + 5) (by omega)
          have e5 := cell_blk hE1 hy5
          have f5 : wr.frozen? ⟨gE, l * 7 + 5, none⟩ = false := frozen_blk hE1 _
          obtain ⟨y6, hy6⟩ := some_at (cur := cE') (o := l * 7 + 6) (by omega)
          have e6 := cell_blk hE1 hy6
          have f6 : wr.frozen? ⟨gE, l * 7 + 6, none⟩ = false := frozen_blk hE1 _
          have hlzi : (l : Int) < (z : Int) := by omega
          have h0l : (0 : Int) ≤ (l : Int) := Int.natCast_nonneg l
          have HLZ := Lib.hid hlz
          have S9 := Lib.hid (hSl.out.trans (Sim.setE hE1 (l * 7) [.int .i64 99, .string ⟨#[]⟩, .string ⟨#[]⟩, .string ⟨#[]⟩, .int .i64 0, .int .i64 0, .int .i64 0]))
          have O9 := Lib.hid (only_setCells (S := RowOf (some ⟨gE, 0, none⟩)) gE ⟨_, rfl, rfl⟩ [.int .i64 99, .string ⟨#[]⟩, .string ⟨#[]⟩, .string ⟨#[]⟩, .int .i64 0, .int .i64 0, .int .i64 0] (l * 7) wr hOl.out)
          clear hy0 hy1 hy2 hy3 hy4 hy5 hy6 hE1 hE2 hgE hzE hlz hl
          go_wp2
          go_roundw
          case rel => exact ⟨l + 1, HLZ.out, by go_num, S9, O9⟩
          case measure => have := HLZ.out; simp [intOf]; omega
        · obtain rfl : z = l := by omega
          have hk0 : ¬ (z : Int) < (z : Int) := by omega
          have BWr := Lib.hid (show Bx wr Bw [.bool p.stash, .slice ua z uc, .string (bs p.state), .bool p.stop, .string (bs p.fail)] 30 from (hOl.out.block Bw (lt_of_block BWA.out) (fun h => by have := (HNA.out _ h).1; have := HB8.out; omega)).trans BWA.out)
          have BLr := Lib.hid (show Bx wr Bb [.string (bs x.name), .int .i64 x.limit, .int .i64 x.within, .slice f1 n1 h1, .slice f2 nS h2] 25 from (hOl.out.block Bb (lt_of_block BLA.out) (fun h => by have := (HNA.out _ h).1; have := HL8.out; omega)).trans BLA.out)
          have Mr := Lib.hid (show MEff wr (.slice ua z uc) p.effs from own_keep MA.out hOl.out (fun g hg h => by
            cases ua with
            | none => simp [Value.ownBlock] at hg
            | some ad => simp [Value.ownBlock] at hg; have h1 := HM8.out g ⟨ad, rfl, hg⟩; have := (HNA.out _ h).1; omega))
          have Oq := Lib.hid (OA'.out.then hOl.out (fun g hg hlt => by have h1 := (HNA.out _ hg).1; have := HOW.out; omega))
          have HSr := Lib.hid (show SIn Bb wr f2 nS h2 x.states from ⟨HSA.out.x.keep hOl.out (fun b hb h => by have h1 := (HNA.out _ h).1; have := HL8.out; omega), HSA.out.hn, HSA.out.hb, HSA.out.wf, HSA.out.bz, Nat.le_trans HSA.out.hD hOl.out.size⟩)
          have HDr := Lib.hid (fun w' (o : Only Nil wr w') => HPD.out w' f2 h2 Bb (.slice f1 n1 h1) (HSr.out.keep o))
          have CC := Lib.hid (show ∀ w', Only Nil wr w' → (fun w' : World => w'.cell? ⟨Bw, 0, none⟩ = some (.bool p.stash) ∧ w'.cell? ⟨Bw, 1, none⟩ = some (.slice ua z uc) ∧ w'.cell? ⟨Bw, 2, none⟩ = some (.string (bs p.state)) ∧ w'.cell? ⟨Bw, 3, none⟩ = some (.bool p.stop) ∧ w'.cell? ⟨Bw, 4, none⟩ = some (.string (bs p.fail)) ∧ w'.cell? ⟨Bb, 0, none⟩ = some (.string (bs x.name)) ∧ w'.cell? ⟨Bb, 1, none⟩ = some (.int .i64 x.limit) ∧ w'.cell? ⟨Bb, 2, none⟩ = some (.int .i64 x.within) ∧ w'.cell? ⟨Bb, 3, none⟩ = some (.slice f1 n1 h1) ∧ w'.cell? ⟨Bb, 4, none⟩ = some (.slice f2 nS h2)) w' from fun w' o => by
            have h1 := BWr.out.keep o
            have h2 := BLr.out.keep o
            exact ⟨h1.cell 0 rfl, h1.cell 1 rfl, h1.cell 2 rfl, h1.cell 3 rfl, h1.cell 4 rfl, h2.cell 0 rfl, h2.cell 1 rfl, h2.cell 2 rfl, h2.cell 3 rfl, h2.cell 4 rfl⟩)
          have OO := Lib.hid (show Only Nil wr wr.drew from (Only.refl Nil wr).drew)
          have M6 := Lib.hid (MEff.keep (t := 25) Mr.out OO.out (ofT_nil _ _) (by decide))
          have hok : (ok == ok) = true := by simp
          clear hl hlz BG
          go_upto_region 23 with (fail)
          clear c1
          refine wp_region_held_drew (S := fun w' => w'.cell? ⟨Bw, 0, none⟩ = some (.bool p.stash) ∧ w'.cell? ⟨Bw, 1, none⟩ = some (.slice ua z uc) ∧ w'.cell? ⟨Bw, 2, none⟩ = some (.string (bs p.state)) ∧ w'.cell? ⟨Bw, 3, none⟩ = some (.bool p.stop) ∧ w'.cell? ⟨Bw, 4, none⟩ = some (.string (bs p.fail)) ∧ w'.cell? ⟨Bb, 0, none⟩ = some (.string (bs x.name)) ∧ w'.cell? ⟨Bb, 1, none⟩ = some (.int .i64 x.limit) ∧ w'.cell? ⟨Bb, 2, none⟩ = some (.int .i64 x.within) ∧ w'.cell? ⟨Bb, 3, none⟩ = some (.slice f1 n1 h1) ∧ w'.cell? ⟨Bb, 4, none⟩ = some (.slice f2 nS h2)) (by kernel_rfl) (CC.out _ OO.out) (fun hHeld => ?_)
          refine take_dst (some 113) (i := 0) (v := ?vkp1) rfl (by kernel_rfl) (by kernel_rfl) (by kernel_rfl) (by kernel_rfl) (fun _ _ _ h => h) (Or.inl ⟨by kernel_rfl, ?hkp1⟩) (by assumption) ?rkp1
          case hkp1 => (intro w hSw; (try dsimp only at hSw); first | (go_simp; done) | (go_simp; with_reducible rfl))
          try simp only [Act.put, List.setIfInBounds_toArray, List.set_cons_zero, List.set_cons_succ]
          refine take_dst (some 114) (i := 1) (v := ?vkp2) rfl (by kernel_rfl) (by kernel_rfl) (by kernel_rfl) (by kernel_rfl) (fun _ _ _ h => h) (Or.inl ⟨by kernel_rfl, ?hkp2⟩) (by assumption) ?rkp2
          case hkp2 => (intro w hSw; (try dsimp only at hSw); first | (go_simp; done) | (go_simp; with_reducible rfl))
          try simp only [Act.put, List.setIfInBounds_toArray, List.set_cons_zero, List.set_cons_succ]
          refine take_dst (some 115) (i := 2) (v := ?vkp3) rfl (by kernel_rfl) (by kernel_rfl) (by kernel_rfl) (by kernel_rfl) (fun _ _ _ h => h) (Or.inl ⟨by kernel_rfl, ?hkp3⟩) (by assumption) ?rkp3
          case hkp3 => (intro w hSw; (try dsimp only at hSw); first | (go_simp; done) | (go_simp; with_reducible rfl))
          try simp only [Act.put, List.setIfInBounds_toArray, List.set_cons_zero, List.set_cons_succ]
          refine take_dst (some 116) (i := 3) (v := ?vkp4) rfl (by kernel_rfl) (by kernel_rfl) (by kernel_rfl) (by kernel_rfl) (fun _ _ _ h => h) (Or.inl ⟨by kernel_rfl, ?hkp4⟩) (by assumption) ?rkp4
          case hkp4 => (intro w hSw; (try dsimp only at hSw); first | (go_simp; done) | (go_simp; with_reducible rfl))
          try simp only [Act.put, List.setIfInBounds_toArray, List.set_cons_zero, List.set_cons_succ]
          refine take_dst (some 117) (i := 4) (v := ?vkp5) rfl (by kernel_rfl) (by kernel_rfl) (by kernel_rfl) (by kernel_rfl) (fun _ _ _ h => h) (Or.inl ⟨by kernel_rfl, ?hkp5⟩) (by assumption) ?rkp5
          case hkp5 => (intro w hSw; (try dsimp only at hSw); first | (go_simp; done) | (go_simp; with_reducible rfl))
          try simp only [Act.put, List.setIfInBounds_toArray, List.set_cons_zero, List.set_cons_succ]
          refine take_dst (some 118) (i := 5) (v := ?vkp6) rfl (by kernel_rfl) (by kernel_rfl) (by kernel_rfl) (by kernel_rfl) (fun _ _ _ h => h) (Or.inl ⟨by kernel_rfl, ?hkp6⟩) (by assumption) ?rkp6
          case hkp6 => (intro w hSw; (try dsimp only at hSw); first | (go_simp; done) | (go_simp; with_reducible rfl))
          try simp only [Act.put, List.setIfInBounds_toArray, List.set_cons_zero, List.set_cons_succ]
          refine take_dst (some 119) (i := 6) (v := ?vkp7) rfl (by kernel_rfl) (by kernel_rfl) (by kernel_rfl) (by kernel_rfl) (fun _ _ _ h => h) (Or.inl ⟨by kernel_rfl, ?hkp7⟩) (by assumption) ?rkp7
          case hkp7 => (intro w hSw; (try dsimp only at hSw); first | (go_simp; done) | (go_simp; with_reducible rfl))
          try simp only [Act.put, List.setIfInBounds_toArray, List.set_cons_zero, List.set_cons_succ]
          refine take_dst (some 120) (i := 7) (v := ?vkp8) rfl (by kernel_rfl) (by kernel_rfl) (by kernel_rfl) (by kernel_rfl) (fun _ _ _ h => h) (Or.inl ⟨by kernel_rfl, ?hkp8⟩) (by assumption) ?rkp8
          case hkp8 => (intro w hSw; (try dsimp only at hSw); first | (go_simp; done) | (go_simp; with_reducible rfl))
          try simp only [Act.put, List.setIfInBounds_toArray, List.set_cons_zero, List.set_cons_succ]
          refine wpAnyH_ready (rs := [8]) (by kernel_rfl) (by simp) ?_
          refine AllReadyH.cons rfl (fun Kkp9 hKkp9 => ?_) AllReadyH.nil
          (go_simp; go_at_call 13; refine (HDr.out _ OO.out).mono ?_; rintro e wn ⟨hr, on⟩; obtain ⟨v, rfl, hM, _⟩ := hr.out; obtain ⟨xb, xd, rfl⟩ := own_slice_n hM; have M2 := Lib.hid hM; have X := Lib.hid (MEff.keep (t := 25) M6.out on (ofT_nil _ _) (by decide)); clear M6; have M6 := X; clear X; have X := Lib.hid (OO.out.trans on); clear OO; have OO := X; clear X; clear hr hM on; simp only [plC, HZ.out]; go_wp2_with fail)
          refine hKkp9.out _ _ ?skp9 (fun hHeldkp9 => ?_)
          case skp9 => exact CC.out _ OO.out
          clear hKkp9 Kkp9
          try simp only [Act.put, List.setIfInBounds_toArray, List.set_cons_zero, List.set_cons_succ]
          refine wpAnyH_ready (rs := [9]) (by kernel_rfl) (by simp) ?_
          refine AllReadyH.cons rfl (fun Kkp10 hKkp10 => ?_) AllReadyH.nil
          (go_simp; go_at_call 26; refine (lsame15 p (MEff.x M6.out) (MEff.x (HZ.out ▸ M2.out)) HZ.out (by have := HPZ.out; omega)).mono ?_; rintro e wn ⟨rfl, on⟩; have X := Lib.hid (OO.out.trans on); clear OO; have OO := X; clear X; clear on; go_wp2_with fail)
          refine hKkp10.out _ _ ?skp10 (fun hHeldkp10 => ?_)
          case skp10 => exact CC.out _ OO.out
          clear hKkp10 Kkp10
          try simp only [Act.put, List.setIfInBounds_toArray, List.set_cons_zero, List.set_cons_succ]
          refine take_dst (some 123) (i := 10) (v := ?vkp11) rfl (by kernel_rfl) (by kernel_rfl) (by kernel_rfl) (by kernel_rfl) (fun _ _ _ h => h) (Or.inl ⟨by kernel_rfl, ?hkp11⟩) (by assumption) ?rkp11
          case hkp11 => (intro w hSw; (try dsimp only at hSw); first | (go_simp; done) | (go_simp; with_reducible rfl))
          try simp only [Act.put, List.setIfInBounds_toArray, List.set_cons_zero, List.set_cons_succ]
          refine take_dst (some 8) (i := 11) (v := ?vkp12) rfl (by kernel_rfl) (by kernel_rfl) (by kernel_rfl) (by kernel_rfl) (fun _ _ _ h => h) (Or.inl ⟨by kernel_rfl, ?hkp12⟩) (by assumption) ?rkp12
          case hkp12 => (intro w hSw; (try dsimp only at hSw); first | (go_simp; done) | (go_simp; with_reducible rfl))
          try simp only [Act.put, List.setIfInBounds_toArray, List.set_cons_zero, List.set_cons_succ]
          refine wpAnyH_done (by kernel_rfl) ?_ _
          go_wp2
          go_ret
          exact ⟨rfl, below_of (Oq.out.trans OO.out)⟩
theorem kept_row (P : List Kd) (sl : Value) (w : World) (x : XK w.heap.size w sl P) (wf : wfP P) (bz : bzP P) (a b c : ByteArray) :
    Calls Try.prog 10 #[.agg #[sl], .string a, .string b, .string c] w fun e w' => e = .returned (.bool true) ∧ Below w.heap.size w w' := by
  obtain ⟨sa, sc, rfl⟩ := x.slice
  have h := kept_all P x rfl wf bz a.data.toList b.data.toList c.data.toList
  rw [bs_of, bs_of, bs_of] at h
  exact h
end Go.Proofs.Ytimnaiahokafaaa.Ac
