/- GateOrder answers true for every number and every list of picks, and turns nothing that there was: the walk. -/
import Derived.Test.YtfhbgabblegecaaGtCj
import Derived.Test.YtfhbgabblegecaaGtOnA
import Derived.BigQuiet
import Derived.Deep.QuietTactic
namespace Go.Proofs.Ytfhbgabblegecaa.Gt
open Go.RowKit

/-- f: the last one of each who puts, among the first j. -/
def Ls (l : List Nat) (vo : Nat → Int) (j : Nat) (f : Nat → Int) : Prop :=
  ∀ q, q < 2 → f q = 0 ∨ ∃ u m, u ∈ l.take j ∧ m < 4294967296 ∧ f q = vo u ∧ vo u = num q m
theorem take_next' {X : List Nat} {j : Nat} (h : j < X.length) : X.take (j + 1) = X.take j ++ [X[j]] := by
  rw [List.take_add_one, List.getElem?_eq_getElem h]
  simp
theorem Fin.next {ins : Nat → List Int} {T : Nat} {vo : Nat → Int} {it : List Nat} {tk : Nat → List Nat} (F : Fin ins T vo it tk) {kk : Nat} (hk : kk < 2) {f : Nat → Int} {j : Nat} (h : Ls (tk kk) vo j f) (hj : j < (ins (kk + 1)).length) :
    ∃ y p : Nat, p < 2 ∧ (ins (kk + 1)).getD j 0 = (y : Int) ∧ y / 4294967296 = p ∧ f p < (y : Int) ∧ Ls (tk kk) vo (j + 1) (upd f p (y : Int)) := by
  have ej := F.tv kk hk
  have hj2 : j < (tk kk).length := by rw [ej] at hj; simpa using hj
  have hx : (ins (kk + 1)).getD j 0 = vo (tk kk)[j] := by rw [ej]; simp [hj2]
  generalize ht : (tk kk)[j] = t at hx
  have hm : t ∈ tk kk := by rw [← ht]; exact List.getElem_mem hj2
  have htT : t < T := (F.tM t).2 ⟨kk, hk, hm⟩
  obtain ⟨p, k, h1, h2, h3, e⟩ := F.vn t htT
  have ey : num p k = ((p * 4294967296 + k : Nat) : Int) := by unfold num; omega
  refine ⟨p * 4294967296 + k, p, h1, by rw [hx, e, ey], by omega, ?_, fun q hq => ?_⟩
  · rcases h p h1 with z | ⟨u, m, hu, hm2, e1, e2⟩
    · rw [z]; omega
    · have hlt : u < t := by
        have pw := F.tI kk hk
        rw [← List.take_append_drop j (tk kk)] at pw
        have := (List.pairwise_append.1 pw).2.2 u hu t (by rw [List.drop_eq_getElem_cons hj2, ht]; simp)
        exact this
      have := F.vi u t p m k hlt htT h1 hm2 h3 e2 e
      rw [e1, e2, ← ey]
      unfold num
      omega
  · rw [take_next' hj2]
    by_cases g : q = p
    · subst g
      rw [upd_same]
      exact .inr ⟨t, k, by rw [ht]; simp, h3, by rw [e, ey], e⟩
    · rw [upd_other _ _ _ _ g]
      rcases h q hq with z | ⟨u, m, hu, hm2, e1, e2⟩
      · exact .inl z
      · exact .inr ⟨u, m, List.mem_append_left _ hu, hm2, e1, e2⟩

set_option maxRecDepth 100000 in
set_option maxHeartbeats 16000000 in
theorem order_walk (k : Int) (a : Option Addr) (cap : Nat) (V : List Int) (c : Nat) (w : World) (hc : 1 ≤ c ∧ c ≤ 8) (e1 : 1 + k % 6 = (c : Int)) (hk : 0 ≤ k ∧ k < 256) (hV : RowK .u8 w a V) (hu : ∀ j, 0 ≤ V.getD j 0 ∧ V.getD j 0 < 256) (hr : V.length * 1 ≤ 140737488351232) :
    Calls Try.prog 9 #[.int .u8 k, .slice a V.length cap] w fun e w' => e = .returned (.bool true) ∧ Below w.heap.size w w' := by
  have rn := Lib.hid (fun w1 (o : Only Nil w w1) => run_walk c (by omega) hc.2 a cap V w1 (hV.keep o) hu hr)
  rw [← e1] at rn
  obtain ⟨x1, x2⟩ := hk
  have e1' := Lib.hid e1
  clear hc e1 hV hu
  generalize V.length = len at hr rn ⊢
  go_enter Try.func9, Try.ntmps9
  go_wp2_with (first
    | (go_at_call 38; (with_reducible refine (alive_any _).mono ?_); rintro e w1 ⟨rfl, o1⟩)
    | (go_at_call 39; (with_reducible refine (rn.out _ o1).mono ?_); rintro e w2 ⟨cb, rfl, k2⟩))
  obtain ⟨rg, B, base, pb, nb, ib, h3⟩ := k2.out
  obtain ⟨R, P, ins, K, C2, T, vo, it, tk, F⟩ := h3.fin (by omega)
  obtain ⟨iv, D2⟩ := C2.rd
  have ow := Lib.hid (o1.trans D2.only)
  have D2' := Lib.hid D2
  have F' := Lib.hid F
  clear k2 h3 C2 D2 F o1 rn
  go_loopw [6] (fun s6 wr => ∃ kk : Nat, kk ≤ 2 ∧ s6 = .int .i64 (kk : Int) ∧ Hid (Only Nil w2 wr))
    (fun s6 _ => 2 - (intOf s6).toNat)
  case atStart => exact ⟨0, Nat.zero_le _, rfl, Lib.hid (by first | exact Only.refl _ _ | exact (Only.refl Nil w2).drewN _)⟩
  case round =>
    obtain ⟨kk, hkk, rfl, hO2⟩ := hrel
    by_cases hk2 : kk < 2
    · have hk2' : (kk : Int) < 2 := by omega
      have hgk := Lib.hid hk2
      clear hkk hk2
      go_wp2
      generalize wr = wp at hO2 ⊢
      generalize hz : wp.heap.size = zb
      have hz' := Lib.hid hz
      have Z0 : Hid ((wp.alloc (.cells #[.int .u64 0, .int .u64 0] 40)).heap[zb]? = some (.cells (rowC 2 fun _ => .int .u64 0) 40 (0, 0))) := Lib.hid (by
        rw [← hz]; exact heap_new wp _)
      have hO2' := hO2
      have A0 := Lib.hid (hO2.out.alloc (.cells #[.int .u64 0, .int .u64 0] 40))
      clear hz
      generalize (wp.alloc (.cells #[.int .u64 0, .int .u64 0] 40)) = W9 at Z0 A0 ⊢
      clear hO2
      generalize hlk : (ins (kk + 1)).length = lk
      have hlk' := Lib.hid hlk
      have lkb : lk ≤ 100000 := by rw [← hlk]; exact D2'.out.short _
      clear hlk
      go_loopw [8] (fun s8 wr => ∃ (j : Nat) (f : Nat → Int), j ≤ lk ∧ s8 = .int .i64 (j : Int) ∧ Hid (wr.heap[zb]? = some (.cells (rowC 2 fun q => .int .u64 (f q)) 40 (0, 0))) ∧ Hid (Ls (tk kk) vo j f) ∧ Hid (Only (fun k => k = zb) W9 wr))
        (fun s8 _ => lk - (intOf s8).toNat)
      case atStart => exact ⟨0, fun _ => 0, Nat.zero_le _, rfl, Z0, Lib.hid (fun q _ => .inl rfl), Lib.hid (Only.refl _ _)⟩
      case round =>
        obtain ⟨j, f, hj, rfl, hZ, hL, hO3⟩ := hrel
        have OF := Lib.hid (A0.out.then hO3.out (fun q hq hl => by have := hz'.out; have := hO2'.out.size; omega))
        have D3 := D2'.out.keep OF.out (fun _ z => z.elim)
        have c4 := D3.c4
        have dk := D3.ic kk hgk.out
        obtain ⟨aK, kK, eK, hK⟩ := D3.iu (kk + 1) (by have := hgk.out; omega)
        rw [eK] at dk
        rw [hlk'.out] at dk
        by_cases hjl : j < lk
        · have hjl' : (j : Int) < (lk : Int) := by omega
          have hgj := Lib.hid hjl
          obtain ⟨gK, rfl, _, hcK⟩ := hK j (by rw [hlk'.out]; exact hjl)
          have xj := hcK j (by rw [hlk'.out]; exact hjl)
          obtain ⟨y, p, hp, ey, epy, hlt, hL2⟩ := F'.out.next hgk.out hL.out (by rw [hlk'.out]; exact hjl)
          rw [ey] at xj
          have hp' := Lib.hid hp
          have e32 : ((y : Int) / 4294967296) = (p : Int) := by omega
          have p1 : decide (1 < (p : Int)) = false := by simp; omega
          have p3 : (p : Int) < 2 := by omega
          have za := row_cell hZ.out p hp
          have zf := row_frozen hZ.out p
          have nx : Hid ((wr.setCell ⟨zb, p, none⟩ (.int .u64 (y : Int))).heap[zb]? = some (.cells (rowC 2 fun q => .int .u64 (upd f p (y : Int) q)) 40 (0, 0))) := Lib.hid (by
            rw [row_set hZ.out]
            congr 2
            apply rowC_congr
            intro q _
            by_cases g : q = p
            · subst g; rw [upd_same, upd_same]
            · rw [upd_other _ _ _ _ g, upd_other _ _ _ _ g])
          have O2 := Lib.hid (fun m => (hO3.out.drewN m).setCell (p := ⟨zb, p, none⟩) rfl (.int .u64 (y : Int)))
          have hL2' := Lib.hid hL2
          have n2 : decide ((y : Int) ≤ f p) = false := by simp; omega
          generalize f p = g at za n2
          clear hcK hK eK D3 hj hjl hp ey epy hlt hL2 hL hZ
          go_wp2
          go_quiet (fail)
          go_wp2
          go_roundw
          case rel => exact ⟨j + 1, upd f p (y : Int), by have := hgj.out; omega, by go_num, nx, hL2', Lib.hid (O2.out _)⟩
          case measure => have := hgj.out; simp [intOf]; omega
        · have hjl' : ¬ ((j : Int) < (lk : Int)) := by omega
          clear hK eK D3 hj hjl hL hZ
          go_wp2
          go_roundw
          case rel => exact ⟨kk + 1, by have := hgk.out; omega, by go_num, OF⟩
          case measure => have := hgk.out; simp [intOf]; omega
    · have hke : kk = 2 := by omega
      subst hke
      clear hkk hk2
      go_wp2
      go_ret
      exact ⟨rfl, (ow.out.trans hO2.out).below (Nat.le_refl _) (fun _ h => h.elim)⟩

theorem order_all (k : Int) (a : Option Addr) (cap : Nat) (V : List Int) (w : World) (hk : 0 ≤ k ∧ k < 256) (hV : RowK .u8 w a V) (hu : ∀ n ∈ V, (Lit.int .u8 n).wf = true) (hr : V.length * 1 ≤ 140737488351232) :
    Calls Try.prog 9 #[.int .u8 k, .slice a V.length cap] w fun e w' => e = .returned (.bool true) ∧ Below w.heap.size w w' :=
  order_walk k a cap V (1 + k % 6).toNat w (by omega) (by omega) hk hV (u8s_of_wf hu) hr
end Go.Proofs.Ytfhbgabblegecaa.Gt
