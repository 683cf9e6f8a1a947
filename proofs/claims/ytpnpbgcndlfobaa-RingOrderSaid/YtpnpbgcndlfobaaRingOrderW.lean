/- RingOrder answers true for every number and every list of picks, and turns nothing that there was: the walk. -/
import Derived.Test.YtpnpbgcndlfobaaCrowdI
import Derived.BigQuiet
import Derived.Deep.QuietTactic
namespace Go.Proofs.Ytpnpbgcndlfobaa
open Go.RowKit

/-- A slice that holds the numbers X. -/
def UIn (w : World) (v : Value) (X : List Int) : Prop :=
  ∃ a cap, v = .slice a X.length cap ∧ ∀ i, i < X.length → ∃ g, a = some ⟨g, 0, none⟩ ∧ g < w.heap.size ∧ ∀ j, j < X.length → w.cell? ⟨g, j, none⟩ = some (.int .u64 (X.getD j 0))
theorem own_uin {w : World} {base : Nat} {v : Value} {X : List Int} (h : w.ownsRow base 37 1 v X.length (uv X)) : UIn w v X := by
  rcases h.2 with ⟨rfl, h0⟩ | ⟨g, c, cur, rfl, _, hg, _⟩
  · refine ⟨none, 0, by rw [h0], fun i hi => by omega⟩
  · refine ⟨_, c, rfl, fun i hi => ⟨g, rfl, lt_of_block hg, fun j hj => ?_⟩⟩
    rw [h.cellAt j (by omega)]
    simp [uv, hj]
theorem UIn.keep {w w' : World} {v : Value} {X : List Int} (h : UIn w v X) {S : Nat → Prop} (o : Only S w w') (hS : ∀ k, S k → w.heap.size ≤ k) : UIn w' v X := by
  obtain ⟨a, cap, e, f⟩ := h
  refine ⟨a, cap, e, fun i hi => ?_⟩
  obtain ⟨g, ha, hg, hc⟩ := f i hi
  refine ⟨g, ha, Nat.lt_of_lt_of_le hg o.size, fun j hj => ?_⟩
  rw [World.cell?_of_block (a := ⟨g, j, none⟩) (o.block g hg (fun s => by have := hS g s; omega))]
  exact hc j hj

/-- What a law reads of a crowd that has come to its end. -/
structure Rd (w1 w : World) (cb ib : Nat) (iv : Nat → Value) (ta : Value) (ins : Nat → List Int) (taken : List Int) (mo : Int) : Prop where
  only : Only Nil w1 w
  c3 : w.cell? ⟨cb, 3, none⟩ = some (.slice (some ⟨ib, 0, none⟩) 3 3)
  c6 : w.cell? ⟨cb, 6, none⟩ = some ta
  lc : cb < w.heap.size
  li : ib < w.heap.size
  ic : ∀ p, p < 3 → w.cell? ⟨ib, p, none⟩ = some (iv p)
  iu : ∀ p, p < 3 → UIn w (iv p) (ins p)
  tu : UIn w ta taken
  good : ∀ x ∈ taken, Qc x
  short : taken.length ≤ 100000 ∧ ∀ p, (ins p).length ≤ 100000
theorem CrE.rd {w1 w : World} {rg B base c cb pb nb ib K : Nat} {R : Rg} {P : Nat → Option (PS × Int)} {T : Option TS} {mo : Int} {cnt : Nat} {ins : Nat → List Int} {taken : List Int} (h : CrE w1 w rg B base c cb pb nb ib K R P T mo cnt ins taken) :
    ∃ iv ta, Rd w1 w cb ib iv ta ins taken mo := by
  obtain ⟨L, t, ob, tb, nx, iv, st, ta, h⟩ := h
  have hl := h.sys.head_le
  have := h.tl; have := h.kb
  exact ⟨iv, ta, h.cw.core.lw.only, h.cw.cells.2.2.2.1, h.cw.cells.2.2.2.2.2.2.1, lt_of_block h.cw.cbh, lt_of_block h.cw.ibh, fun p hp => (h.cw.ic p hp).1, fun p hp => own_uin (h.cw.core.own p hp), own_uin h.cw.core.ownT, h.sys.good, by omega, fun p => by have := hl.2.2 p; omega⟩

/-- How many of p's are among the first i. -/
def atN (taken : List Int) (i p : Nat) : Nat := ((taken.take i).filter fun x => decide (pidc x = p)).length


set_option maxRecDepth 100000 in
set_option maxHeartbeats 16000000 in
theorem order_walk (k : Int) (a : Option Addr) (cap : Nat) (V : List Int) (c : Nat) (w : World) (hc : 1 ≤ c ∧ c ≤ 8) (e1 : 1 + k % 8 = (c : Int)) (hk : 0 ≤ k ∧ k < 256) (hV : RowK .u8 w a V) (hu : ∀ j, 0 ≤ V.getD j 0 ∧ V.getD j 0 < 256) (hr : V.length * 1 ≤ 140737488351232) :
    Calls Try.prog 5 #[.int .u8 k, .slice a V.length cap] w fun e w' => e = .returned (.bool true) ∧ Below w.heap.size w w' := by
  have rn := Lib.hid (fun w1 (o : Only Nil w w1) => run_walk c (by omega) hc.2 a cap V w1 (hV.keep o) hu hr)
  rw [← e1] at rn
  have m1 := fun (w : World) => run_make_row' (P := Try.prog) 62 3 (.int .i64 0) 8 Try.underlying62 Try.infoInt rfl .i64 .i64 3 (by omega) (by omega) w
  simp only [made_row, show ((3 : Nat) : Int) = 3 from rfl] at m1
  obtain ⟨x1, x2⟩ := hk
  clear hc e1 hV hu
  generalize V.length = len at hr rn ⊢
  go_enter Try.func5, Try.ntmps5
  go_wp2_with (first
    | (go_at_call 10; (with_reducible refine (alive_any _).mono ?_); rintro e w1 ⟨rfl, o1⟩)
    | (go_at_call 27; (with_reducible refine (rn.out _ o1).mono ?_); rintro e w2 ⟨cb, rfl, k2⟩))
  have ow := Lib.hid o1
  obtain ⟨rg, B, base, pb, nb, ib, R, P, mo, ins, taken, C2, _, hins⟩ := k2.out
  obtain ⟨iv, ta, D2⟩ := C2.rd
  have D2' := Lib.hid D2
  have hins' := Lib.hid hins
  have tl := Lib.hid D2.short
  obtain ⟨aT, cT, hta, hT⟩ := D2.tu
  subst hta
  have c6 := D2.c6
  clear k2 C2 D2 hins o1 rn m1
  generalize hz : w2.heap.size = zb
  have hz' := Lib.hid hz
  have Z0 : Hid ((w2.alloc (.cells (rowC 3 fun _ => .int .i64 0) 3)).heap[zb]? = some (.cells (rowC 3 fun p => .int .i64 ((atN taken 0 p : Nat) : Int)) 3 (0, 0))) := Lib.hid (by
    rw [← hz]; exact heap_new w2 _)
  have A0 := Lib.hid ((Only.refl Nil w2).alloc (.cells (rowC 3 fun _ => .int .i64 0) 3))
  clear hz
  generalize (w2.alloc (.cells (rowC 3 fun _ => .int .i64 0) 3)) = W9 at Z0 A0 ⊢
  generalize hlt : taken.length = lt at hT c6 ⊢
  have hlt' := Lib.hid hlt
  clear hlt hT
  have ltb : (lt : Int) ≤ 100000 := by have := tl.out.1; have := hlt'.out; omega
  go_loopw [7] (fun s7 wr => ∃ i : Nat, i ≤ lt ∧ s7 = .int .i64 (i : Int) ∧ Hid (wr.heap[zb]? = some (.cells (rowC 3 fun p => .int .i64 ((atN taken i p : Nat) : Int)) 3 (0, 0))) ∧ Hid (Only (fun k => k = zb) W9 wr))
    (fun s7 _ => lt - (intOf s7).toNat)
  case atStart => exact ⟨0, Nat.zero_le _, rfl, Z0, Lib.hid (Only.refl _ _)⟩
  case round =>
    obtain ⟨i, hi, rfl, hZ, hO⟩ := hrel
    have OF := Lib.hid (A0.out.next hO.out (fun q hq hl => by have := hz'.out; omega))
    have f3 : ∀ b i v, b < w2.heap.size → w2.cell? ⟨b, i, none⟩ = some v → wr.cell? ⟨b, i, none⟩ = some v := fun b i v hb h => by
      rw [World.cell?_of_block (a := ⟨b, i, none⟩) (OF.out.block b hb (fun h => h))]; exact h
    have d6 := f3 _ _ _ D2'.out.lc c6
    have d3 := f3 _ _ _ D2'.out.lc D2'.out.c3
    by_cases hil : i < lt
    · have hil' : (i : Int) < (lt : Int) := by omega
      obtain ⟨aT2, cT2, e2, hT2⟩ := (D2'.out.tu.keep OF.out (fun _ z => z.elim))
      simp only [Value.slice.injEq] at e2
      obtain ⟨rfl, e3, rfl⟩ := e2
      obtain ⟨gT, rfl, _, hcT⟩ := hT2 i (by rw [hlt'.out]; exact hil)
      have xi := hcT i (by rw [hlt'.out]; exact hil)
      have hmem : taken[i]? = some (taken.getD i 0) := by
        have : i < taken.length := by rw [hlt'.out]; exact hil
        simp [this]
      have hq := D2'.out.good (taken.getD i 0) (List.mem_of_getElem? hmem)
      have hgt : Hid (taken.getD i 0 = taken.getD i 0) := Lib.hid rfl
      clear hcT hT2
      generalize taken.getD i 0 = x at xi hmem hq
      obtain ⟨q0, q1⟩ := hq
      obtain ⟨y, rfl⟩ := Int.eq_ofNat_of_zero_le q0
      have hp0 : y / 4294967296 < 3 := by omega
      have hpid : Hid (pidc ((y : Nat) : Int) = y / 4294967296) := Lib.hid (by unfold pidc; omega)
      have hmem' := Lib.hid hmem
      generalize hpp : y / 4294967296 = p at hp0 hpid
      have hpp' := Lib.hid hpp
      clear hmem hpp
      have e32 : ((y : Int) / 4294967296) = (p : Int) := by have := hpp'.out; omega
      have p2 : decide (2 < (p : Int)) = false := by simp; omega
      have p3 : (p : Int) < 3 := by omega
      have hpq := Lib.hid hp0
      have di := f3 _ _ _ D2'.out.li (D2'.out.ic p hp0)
      obtain ⟨aI, cI, eI, hI⟩ := ((D2'.out.iu p hp0).keep OF.out (fun _ z => z.elim))
      rw [eI] at di
      have hyp : decide (pidc ((y : Nat) : Int) = p) = true := by rw [hpid.out]; simp
      have nlt : atN taken i p < (ins p).length := by
        unfold atN; rw [hins'.out p]; exact filter_lt (fun x => decide (pidc x = p)) taken i _ hmem'.out hyp
      have nat_ : (ins p).getD (atN taken i p) 0 = ((y : Nat) : Int) := by
        have := filter_at (fun x => decide (pidc x = p)) taken i _ hmem'.out hyp
        rw [← hins'.out p] at this
        unfold atN
        rw [List.getD_eq_getElem?_getD, this]; rfl
      obtain ⟨gI, rfl, _, hcI⟩ := hI (atN taken i p) nlt
      have xI := hcI (atN taken i p) nlt
      rw [nat_] at xI
      have za := row_cell hZ.out p hp0
      have zf := row_frozen hZ.out p
      have nx : Hid ((wr.setCell ⟨zb, p, none⟩ (.int .i64 ((atN taken i p : Int) + 1))).heap[zb]? = some (.cells (rowC 3 fun q => .int .i64 ((atN taken (i + 1) q : Nat) : Int)) 3 (0, 0))) := Lib.hid (by
        rw [row_set hZ.out]
        congr 2
        apply rowC_congr
        intro q _
        have hn := filter_next (fun x => decide (pidc x = q)) taken i _ hmem'.out
        by_cases g : q = p
        · subst g; rw [upd_same]; unfold atN; rw [hn, if_pos hyp]; simp
        · rw [upd_other _ _ _ _ g]; unfold atN; rw [hn, if_neg (by rw [hpid.out]; simp; exact fun z => g z.symm)]; rfl)
      have O2 := Lib.hid (fun m => (hO.out.drewN m).setCell (p := ⟨zb, p, none⟩) rfl (.int .i64 ((atN taken i p : Int) + 1)))
      have lb : ((ins p).length : Int) ≤ 100000 := by have := tl.out.2 p; omega
      have n1 : ((atN taken i p : Nat) : Int) < ((ins p).length : Int) := by omega
      have n2 : decide ((ins p).length ≤ atN taken i p) = false := by simp; omega
      have hil2 := Lib.hid hil
      clear hcI nat_ nlt hyp hi hil f3 hp0 c6
      generalize atN taken i p = n at *
      generalize (ins p).length = li at *
      go_wp2
      go_quiet (fail)
      go_wp2
      go_roundw
      case rel => exact ⟨i + 1, by have := hil2.out; omega, by go_num, nx, Lib.hid (O2.out _)⟩
      case measure => have := hil2.out; simp [intOf]; omega
    · have hie : i = lt := by omega
      subst hie
      have hil' : ¬ ((i : Int) < (i : Int)) := by omega
      have za0 := row_cell hZ.out 0 (by decide)
      have za1 := row_cell hZ.out 1 (by decide)
      have za2 := row_cell hZ.out 2 (by decide)
      have ei : ∀ p, atN taken i p = (ins p).length := fun p => by unfold atN; rw [hins'.out p, ← hlt'.out, List.take_length]
      rw [ei 0] at za0
      rw [ei 1] at za1
      rw [ei 2] at za2
      have d0 := f3 _ _ _ D2'.out.li (D2'.out.ic 0 (by decide))
      have d1 := f3 _ _ _ D2'.out.li (D2'.out.ic 1 (by decide))
      have d2 := f3 _ _ _ D2'.out.li (D2'.out.ic 2 (by decide))
      obtain ⟨a0, k0, e0, _⟩ := D2'.out.iu 0 (by decide)
      obtain ⟨a1, k1, e1, _⟩ := D2'.out.iu 1 (by decide)
      obtain ⟨a2, k2, e2, _⟩ := D2'.out.iu 2 (by decide)
      rw [e0] at d0
      rw [e1] at d1
      rw [e2] at d2
      clear hi hil f3 ei e0 e1 e2 c6
      generalize (ins 0).length = l0 at za0 d0
      generalize (ins 1).length = l1 at za1 d1
      generalize (ins 2).length = l2 at za2 d2
      go_wp2
      go_quiet (fail)
      go_wp2
      go_ret
      exact ⟨rfl, (((ow.out.trans D2'.out.only).trans OF.out).drewN _).below (Nat.le_refl _) (fun _ h => h.elim)⟩

theorem order_all (k : Int) (a : Option Addr) (cap : Nat) (V : List Int) (w : World) (hk : 0 ≤ k ∧ k < 256) (hV : RowK .u8 w a V) (hu : ∀ n ∈ V, (Lit.int .u8 n).wf = true) (hr : V.length * 1 ≤ 140737488351232) :
    Calls Try.prog 5 #[.int .u8 k, .slice a V.length cap] w fun e w' => e = .returned (.bool true) ∧ Below w.heap.size w w' :=
  order_walk k a cap V (1 + k % 8).toNat w (by omega) (by omega) hk hV (u8s_of_wf hu) hr
end Go.Proofs.Ytpnpbgcndlfobaa
