/- DequeOnce answers true for every number and every list of picks, and turns nothing that there was: the walk. -/
import Derived.Test.YtokopocldicnmaaDqCj
import Derived.Test.YtokopocldicnmaaDqOnA
import Derived.BigQuiet
import Derived.Deep.QuietTactic
namespace Go.Proofs.Ytokopocldicnmaa.Dq
open Go.RowKit

/-- Has v been met among the first k? -/
def met (Y : List Int) (k v : Nat) : Bool := (List.range k).any fun j => Y.getD j 0 == (v : Int)
theorem met_succ (Y : List Int) (k v : Nat) : met Y (k + 1) v = (met Y k v || (Y.getD k 0 == (v : Int))) := by simp [met, List.range_succ]
theorem met_no {Y : List Int} {k v : Nat} (h : ∀ j, j < k → Y.getD j 0 ≠ (v : Int)) : met Y k v = false := by
  simp only [met, List.any_eq_false, List.mem_range]
  intro j hj
  simpa using h j hj
theorem met_yes {Y : List Int} {v : Nat} (h : (v : Int) ∈ Y) : met Y Y.length v = true := by
  obtain ⟨j, hj, e⟩ := List.getElem_of_mem h
  simp only [met, List.any_eq_true, List.mem_range]
  exact ⟨j, hj, by simp [List.getD_eq_getElem?_getD, List.getElem?_eq_getElem hj, e]⟩
def bv (b : Bool) : Int := if b then 1 else 0
theorem full_row {w : World} {base g n : Nat} {e : TypeId} {f : Nat → Value} (h : w.ownsRow base e 1 (.slice (some ⟨g, 0, none⟩) n n) n (rowC n f).toList) : w.heap[g]? = some (.cells (rowC n f) e (0, 0)) := by
  rcases h.2 with ⟨e1, _⟩ | ⟨g', c, cur, e1, _, hg, hc, _, hs, ht⟩
  · simp at e1
  · simp only [Value.slice.injEq, Option.some.injEq, Addr.mk.injEq, and_true, true_and] at e1
    obtain ⟨rfl, rfl⟩ := e1
    rw [hg]
    have : cur = rowC n f := by
      apply Array.ext'
      rw [← ht, List.take_of_length_le (by simp; omega)]
    rw [this]
theorem getD_app1 {P S : List Int} {i : Nat} (h : i < P.length) : (P ++ S).getD i 0 = P.getD i 0 := by simp [List.getD_eq_getElem?_getD, List.getElem?_append_left h]
theorem getD_app2 {P S : List Int} {i : Nat} (h : P.length ≤ i) : (P ++ S).getD i 0 = S.getD (i - P.length) 0 := by simp [List.getD_eq_getElem?_getD, List.getElem?_append_right h]
theorem getD_mem {Y : List Int} {i : Nat} (h : i < Y.length) : Y.getD i 0 ∈ Y := by
  rw [List.getD_eq_getElem?_getD, List.getElem?_eq_getElem h]; exact List.getElem_mem h
/-- What the walk asks of the rows. -/
structure Ye (nx : Nat) (I Y : List Int) : Prop where
  len : I.length = Y.length
  inr : ∀ i, i < Y.length → ∃ v : Nat, Y.getD i 0 = (v : Int) ∧ 1 ≤ v ∧ v ≤ nx
  ne : ∀ i j, i < Y.length → j < Y.length → i ≠ j → Y.getD i 0 ≠ Y.getD j 0
  all : ∀ i, i < I.length → ∃ v : Nat, I.getD i 0 = (v : Int) ∧ v ≤ nx ∧ met Y Y.length v = true
theorem Fe.ye {nx : Nat} {ins : Nat → List Int} (h : Fe nx ins) : Ye nx (ins 0) (ins 1 ++ ins 2) := by
  have nd : (ins 1 ++ ins 2).Nodup := h.perm.nodup_iff.1 (h.inc.imp (fun {a b} (z : a < b) => by omega))
  refine ⟨h.perm.length_eq, fun i hi => ?_, fun i j hi hj hne e => ?_, fun i hi => ?_⟩
  · have := h.inr _ (h.perm.mem_iff.2 (getD_mem hi))
    exact ⟨((ins 1 ++ ins 2).getD i 0).toNat, by omega, by omega, by omega⟩
  · have e2 : (ins 1 ++ ins 2)[i] = (ins 1 ++ ins 2)[j] := by
      have e' := e
      rw [List.getD_eq_getElem?_getD, List.getElem?_eq_getElem hi, List.getD_eq_getElem?_getD, List.getElem?_eq_getElem hj] at e'
      simpa using e'
    exact hne ((List.getElem_inj nd).1 e2)
  · have hm := getD_mem hi
    have := h.inr _ hm
    refine ⟨((ins 0).getD i 0).toNat, by omega, by omega, met_yes ?_⟩
    rw [show ((((ins 0).getD i 0).toNat : Nat) : Int) = (ins 0).getD i 0 by omega]
    exact h.perm.mem_iff.1 hm

set_option maxRecDepth 100000 in
set_option maxHeartbeats 16000000 in
theorem once_walk (k : Int) (a : Option Addr) (cap : Nat) (V : List Int) (c : Nat) (w : World) (hc : 1 ≤ c ∧ c ≤ 8) (e1 : 1 + k % 6 = (c : Int)) (hk : 0 ≤ k ∧ k < 256) (hV : RowK .u8 w a V) (hu : ∀ j, 0 ≤ V.getD j 0 ∧ V.getD j 0 < 256) (hr : V.length * 1 ≤ 140737488351232) :
    Calls Try.prog 3 #[.int .u8 k, .slice a V.length cap] w fun e w' => e = .returned (.bool true) ∧ Below w.heap.size w w' := by
  have rn := Lib.hid (fun w1 (o : Only Nil w w1) => run_walk c (by omega) hc.2 a cap V w1 (hV.keep o) hu hr)
  rw [← e1] at rn
  obtain ⟨x1, x2⟩ := hk
  clear hc e1 hV hu
  generalize V.length = len at hr rn ⊢
  obtain ⟨i0, hi0, hz0, hz1, hz2⟩ := info_parts Try.infoInt
  have hu := Try.underlying33
  go_enter Try.func3, Try.ntmps3
  go_wp2_with (first
    | (go_at_call 15; (with_reducible refine (alive_any _).mono ?_); rintro e w1 ⟨rfl, o1⟩)
    | (go_at_call 16; (with_reducible refine (rn.out _ o1).mono ?_); rintro e w2 ⟨gb, rfl, k2⟩))
  obtain ⟨rg, B, base, tb, K, h3⟩ := k2.out
  obtain ⟨nx, iv, ins, most, D2, F, _⟩ := h3.rd
  have ow := Lib.hid (o1.trans D2.only)
  have D2' := Lib.hid D2
  have ye := F.ye
  have n1 := D2.short 1
  have n2 := D2.short 2
  have nxb := D2.nxb
  obtain ⟨aI, kI, eI, _⟩ := D2.iu 0 (by decide)
  obtain ⟨aP, kP, eP, _⟩ := D2.iu 1 (by decide)
  obtain ⟨aS, kS, eS, _⟩ := D2.iu 2 (by decide)
  have c3 := D2.c3
  have c4 := D2.c4
  have c5 := D2.c5
  have c7 := D2.c7
  rw [eI] at c4
  rw [eP] at c5
  rw [eS] at c7
  have hYl : (ins 1 ++ ins 2).length = (ins 1).length + (ins 2).length := List.length_append
  have hlen := ye.len
  rw [hYl] at hlen
  generalize hlI : (ins 0).length = lI at c4 hlen
  generalize hlP : (ins 1).length = lP at c5 n1 hlen hYl
  generalize hlS : (ins 2).length = lS at c7 n2 hlen hYl
  have hlI' := Lib.hid hlI
  have hlP' := Lib.hid hlP
  have hlS' := Lib.hid hlS
  have ye' := Lib.hid ye
  have hYl' := Lib.hid hYl
  have hlen' := Lib.hid hlen
  have nP : (lP : Int) ≤ 100000 := by omega
  have nS : (lS : Int) ≤ 100000 := by omega
  have nX : (nx : Int) ≤ 100000 := by omega
  have sm : (lI : Int) = (lP : Int) + (lS : Int) := by omega
  have wl : IntKind.i64.wrap ((lP : Int) + (lS : Int)) = (lP : Int) + (lS : Int) := by rw [IntKind.wrap_i64]; omega
  clear k2 h3 D2 F o1 rn eI eP eS hlI hlP hlS hlen hYl ye n1 n2 nxb
  go_wp2
  go_quiet (fail)
  have c3' : (w2.drewN nq).cell? ⟨gb, 3, none⟩ = some (.int .u64 (nx : Int)) := c3
  have o2 := Lib.hid ((Only.refl Nil w2).drewN nq)
  clear c3 c4 c5 c7 sm
  generalize w2.drewN nq = wq at *
  go_wp2_with (at_make; refine wpList_make_full _ rfl _ _ 33 rfl wq.heap.size 3 i0 (.int .i64 0) 1 hu hi0 hz0 hz1 .i64 .i64 _ _ (nx + 1) rfl rfl (by first | rfl | omega | (go_num; done)) (by first | rfl | omega | (go_num; done)) (by rw [hz2]; omega) (by unfold maxLen; omega) (Nat.le_refl _) ?_; intro w4 hown4 hg4; have h4 := Lib.hid hown4; have q4 := Lib.hid (Only.ofGrown hg4); clear hown4 hg4)
  have hrow : Hid (w4.heap[wq.heap.size]? = some (.cells (rowC (nx + 1) fun v => .int .i64 (bv (met (ins 1 ++ ins 2) 0 v))) 3 (0, 0))) := Lib.hid (by
    refine full_row (base := wq.heap.size) ?_
    have := h4.out
    rw [show (Value.int .i64 0).cells = #[.int .i64 0] from rfl, Nat.mul_one, made_row] at this
    exact this)
  have o4 : Hid (Only (fun q => q = wq.heap.size) w2 w4) := Lib.hid ((o2.out.nilTo _).trans (q4.out.mono (fun q hq => by simp at hq)))
  have hge := Lib.hid o2.out.size
  clear h4 q4 c3' o2
  generalize hgs : wq.heap.size = gs at *
  clear hgs
  obtain ⟨Y, hY⟩ : ∃ Y, Y = ins 1 ++ ins 2 := ⟨_, rfl⟩
  rw [← hY] at hrow ye' hYl'
  have hY' := Lib.hid hY
  clear hY
  go_loopw [7, 8] (fun s7 s8 wr => ∃ i : Nat, i ≤ lP + lS ∧ s7 = .int .i64 (i : Int) ∧ Hid (wr.heap[gs]? = some (.cells (rowC (nx + 1) fun v => .int .i64 (bv (met Y i v))) 3 (0, 0))) ∧ Hid (Only (fun q => q = gs) w2 wr))
    (fun s7 _ _ => lP + lS - (intOf s7).toNat)
  case atStart => exact ⟨0, Nat.zero_le _, rfl, hrow, o4⟩
  case round =>
    obtain ⟨i, hi, rfl, hR, hO⟩ := hrel
    have D3 := D2'.out.keep hO.out (fun q z => by have := hge.out; omega)
    have c5 := D3.c5
    have c7 := D3.c7
    obtain ⟨aP, kP, eP, _⟩ := D3.iu 1 (by decide)
    obtain ⟨aS, kS, eS, _⟩ := D3.iu 2 (by decide)
    rw [eP, hlP'.out] at c5
    rw [eS, hlS'.out] at c7
    clear eP eS D3
    by_cases hil : i < lP + lS
    · have hil' : (i : Int) < (lP : Int) + (lS : Int) := by omega
      have hg := Lib.hid hil
      clear hi hil
      go_wp2
      go_quiet (fail)
      have hRx := Lib.hid (show (wr.drewN nq).heap[gs]? = _ from hR.out)
      have hOx := Lib.hid (hO.out.drewN nq)
      clear c5 c7 hR hO hil'
      generalize wr.drewN nq = wx at *
      have D3 := D2'.out.keep hOx.out (fun q z => by have := hge.out; omega)
      have c5 := D3.c5
      have c7 := D3.c7
      have c3 := D3.c3
      obtain ⟨aP, kP, eP, hP⟩ := D3.iu 1 (by decide)
      obtain ⟨aS, kS, eS, hS⟩ := D3.iu 2 (by decide)
      rw [eP, hlP'.out] at c5
      rw [eS, hlS'.out] at c7
      have hYi : i < Y.length := by rw [hYl'.out]; exact hg.out
      obtain ⟨v, hv, v1, v2⟩ := ye'.out.inr i hYi
      have hm : met Y i v = false := met_no (fun j hj => by rw [← hv]; exact ye'.out.ne j i (by omega) hYi (by omega))
      have x4 := row_cell hRx.out v (by omega)
      have x5 := row_frozen hRx.out v
      rw [hm] at x4
      have x4' : wx.cell? ⟨gs, v, none⟩ = some (.int .i64 0) := x4
      have N := Lib.hid (fun (w' : World) (h : w'.heap[gs]? = some (.cells (rowC (nx + 1) fun v => .int .i64 (bv (met Y i v))) 3 (0, 0))) => show (w'.setCell ⟨gs, v, none⟩ (.int .i64 1)).heap[gs]? = some (.cells (rowC (nx + 1) fun u => .int .i64 (bv (met Y (i + 1) u))) 3 (0, 0)) from by
        rw [row_set h]
        congr 2
        apply rowC_congr
        intro u _
        rw [met_succ, hv]
        by_cases g : u = v
        · subst g; rw [upd_same]; simp [bv]
        · rw [upd_other _ _ _ _ g]
          have : ((v : Int) == (u : Int)) = false := by simp; omega
          rw [this, Bool.or_false])
      have O := Lib.hid (fun (w' : World) (h : Only (fun q => q = gs) w2 w') => h.setCell (p := ⟨gs, v, none⟩) rfl (.int .i64 1))
      have hY2 := hY'.out
      have v1' : decide ((v : Int) < 1) = false := decide_eq_false (by omega)
      have v2' : decide (nx < v) = false := decide_eq_false (by omega)
      have v3' : v < nx + 1 := by omega
      have v4' : (v : Int) ≤ 100000 := by omega
      by_cases hip : i < lP
      · obtain ⟨g, rfl, _, hc⟩ := hP i (by rw [hlP'.out]; exact hip)
        have y0 := hc i (by rw [hlP'.out]; exact hip)
        have ey : (ins 1).getD i 0 = (v : Int) := by rw [← hv, hY2, getD_app1 (by rw [hlP'.out]; exact hip)]
        rw [ey] at y0
        have hip' : (i : Int) < (lP : Int) := by omega
        clear hc hP hS eP eS D3 x4 hm hv v1 v2 hYi ey hY2 hip
        go_wp2
        go_roundw
        case rel => exact ⟨i + 1, by have := hg.out; omega, by go_num, Lib.hid (N.out _ hRx.out), Lib.hid (O.out _ hOx.out)⟩
        case measure => have := hg.out; simp [intOf]; omega
      · obtain ⟨j, hj⟩ : ∃ j, i = lP + j := ⟨i - lP, by omega⟩
        have hjl : j < lS := by have := hg.out; omega
        obtain ⟨g, rfl, _, hc⟩ := hS j (by rw [hlS'.out]; exact hjl)
        have y0 := hc j (by rw [hlS'.out]; exact hjl)
        have ey : (ins 2).getD j 0 = (v : Int) := by rw [← hv, hY2, getD_app2 (by rw [hlP'.out]; omega), hlP'.out, hj, Nat.add_sub_cancel_left]
        rw [ey] at y0
        have hip' : ¬ ((i : Int) < (lP : Int)) := by omega
        have hsub : (i : Int) - (lP : Int) = (j : Int) := by omega
        have hi5 : (i : Int) ≤ 200000 := by omega
        have hjl' : (j : Int) < (lS : Int) := by omega
        have hjh := Lib.hid hjl
        clear hc hP hS eP eS D3 x4 hm hv v1 v2 hYi ey hY2 hip hj hjl
        go_wp2
        go_quiet (fail)
        have c3b : (wx.drewN nq).cell? ⟨gb, 3, none⟩ = some (.int .u64 (nx : Int)) := c3
        have x4b : (wx.drewN nq).cell? ⟨gs, v, none⟩ = some (.int .i64 0) := x4'
        have x5b : (wx.drewN nq).frozen? ⟨gs, v, none⟩ = false := x5
        have hRy := Lib.hid (show (wx.drewN nq).heap[gs]? = _ from hRx.out)
        have hOy := Lib.hid (hOx.out.drewN nq)
        clear c3 x4' x5 hRx hOx c5 c7 y0
        generalize wx.drewN nq = wy at *
        go_wp2
        go_roundw
        case rel => exact ⟨i + 1, by have := hg.out; omega, by go_num, Lib.hid (N.out _ hRy.out), Lib.hid (O.out _ hOy.out)⟩
        case measure => have := hg.out; simp [intOf]; omega
    · have hil' : ¬ ((i : Int) < (lP : Int) + (lS : Int)) := by omega
      have hie : i = lP + lS := by omega
      rw [hie, ← hYl'.out] at hR
      clear hi hil
      go_wp2
      go_quiet (fail)
      have hRx := Lib.hid (show (wr.drewN nq).heap[gs]? = _ from hR.out)
      have hOx := Lib.hid (hO.out.drewN nq)
      clear c5 c7 hR hO hil' hie
      generalize wr.drewN nq = wx at *
      go_wp2
      clear wl nP nS
      go_loopw [9] (fun s9 wr => ∃ j : Nat, j ≤ lI ∧ s9 = .int .i64 (j : Int) ∧ wr = wx)
        (fun s9 _ => lI - (intOf s9).toNat)
      case atStart => exact ⟨0, Nat.zero_le _, rfl, rfl⟩
      case round =>
        obtain ⟨j, hj, rfl, rfl⟩ := hrel
        have D3 := D2'.out.keep hOx.out (fun q z => by have := hge.out; omega)
        have c4 := D3.c4
        have n0 := D3.short 0
        obtain ⟨aI, kI, eI, hI⟩ := D3.iu 0 (by decide)
        rw [eI, hlI'.out] at c4
        rw [hlI'.out] at n0
        by_cases hjl : j < lI
        · have hjl' : (j : Int) < (lI : Int) := by omega
          have hgj := Lib.hid hjl
          obtain ⟨g, rfl, _, hc⟩ := hI j (by rw [hlI'.out]; exact hjl)
          have y0 := hc j (by rw [hlI'.out]; exact hjl)
          obtain ⟨v, hv, v2, v3⟩ := ye'.out.all j (by rw [hlI'.out]; exact hjl)
          rw [hv] at y0
          have x4 := row_cell hRx.out v (by omega)
          rw [v3] at x4
          have x4' : wr.cell? ⟨gs, v, none⟩ = some (.int .i64 1) := x4
          have v3' : v < nx + 1 := by omega
          have j5 : (j : Int) < 100000 := by omega
          clear hc hI eI D3 hv v2 v3 x4 hj hjl n0
          go_wp2
          go_roundw
          case rel => exact ⟨j + 1, by have := hgj.out; omega, by go_num, trivial⟩
          case measure => have := hgj.out; simp [intOf]; omega
        · have hjl' : ¬ ((j : Int) < (lI : Int)) := by omega
          clear hI eI D3 hj hjl
          go_wp2
          go_ret
          exact ⟨rfl, (ow.out.then hOx.out (fun q z hl => by have := hge.out; have := ow.out.size; omega)).below (Nat.le_refl _) (fun _ h => h.elim)⟩

theorem once_all (k : Int) (a : Option Addr) (cap : Nat) (V : List Int) (w : World) (hk : 0 ≤ k ∧ k < 256) (hV : RowK .u8 w a V) (hu : ∀ n ∈ V, (Lit.int .u8 n).wf = true) (hr : V.length * 1 ≤ 140737488351232) :
    Calls Try.prog 3 #[.int .u8 k, .slice a V.length cap] w fun e w' => e = .returned (.bool true) ∧ Below w.heap.size w w' :=
  once_walk k a cap V (1 + k % 6).toNat w (by omega) (by omega) hk hV (u8s_of_wf hu) hr
end Go.Proofs.Ytokopocldicnmaa.Dq
