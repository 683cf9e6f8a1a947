/- GateOnce answers true for every number and every list of picks, and turns nothing that there was: the walk. -/
import Derived.Test.YtfhbgabblegecaaGtCj
import Derived.Test.YtfhbgabblegecaaGtOnA
import Derived.BigQuiet
import Derived.Deep.QuietTactic
namespace Go.Proofs.Ytfhbgabblegecaa.Gt
open Go.RowKit

/-- How often x is in the first k rows. -/
def cntK (ins : Nat → List Int) (x : Int) : Nat → Nat
  | 0 => 0
  | k + 1 => cntK ins x k + (ins (k + 1)).count x
theorem cntK_two {ins : Nat → List Int} {T : Nat} {vo : Nat → Int} {it : List Nat} {tk : Nat → List Nat} (F : Fin ins T vo it tk) {i : Nat} (hi : i < (ins 0).length) : cntK ins ((ins 0).getD i 0) 2 = 1 := by
  have hm : (ins 0).getD i 0 ∈ ins 0 := by
    rw [List.getD_eq_getElem?_getD, List.getElem?_eq_getElem hi]; exact List.getElem_mem hi
  have := F.one hm
  show 0 + (ins 1).count _ + (ins 2).count _ = 1
  omega
theorem cnt_le (X : List Int) (x : Int) (j : Nat) : (X.take j).count x ≤ X.length := Nat.le_trans (List.count_le_length) (by simp; omega)
theorem cntK_le {ins : Nat → List Int} (x : Int) (h : ∀ p, (ins p).length ≤ 100000) : ∀ k, k ≤ 2 → cntK ins x k ≤ 200000
  | 0, _ => by simp [cntK]
  | 1, _ => by have := h 1; have := List.count_le_length (a := x) (l := ins 1); show 0 + (ins 1).count _ ≤ _; omega
  | 2, _ => by have := h 1; have := h 2; have := List.count_le_length (a := x) (l := ins 1); have := List.count_le_length (a := x) (l := ins 2); show 0 + (ins 1).count _ + (ins 2).count _ ≤ _; omega
  | k + 3, hk => by omega

set_option maxRecDepth 100000 in
set_option maxHeartbeats 16000000 in
theorem once_walk (k : Int) (a : Option Addr) (cap : Nat) (V : List Int) (c : Nat) (w : World) (hc : 1 ≤ c ∧ c ≤ 8) (e1 : 1 + k % 6 = (c : Int)) (hk : 0 ≤ k ∧ k < 256) (hV : RowK .u8 w a V) (hu : ∀ j, 0 ≤ V.getD j 0 ∧ V.getD j 0 < 256) (hr : V.length * 1 ≤ 140737488351232) :
    Calls Try.prog 8 #[.int .u8 k, .slice a V.length cap] w fun e w' => e = .returned (.bool true) ∧ Below w.heap.size w w' := by
  have rn := Lib.hid (fun w1 (o : Only Nil w w1) => run_walk c (by omega) hc.2 a cap V w1 (hV.keep o) hu hr)
  rw [← e1] at rn
  obtain ⟨x1, x2⟩ := hk
  have e1' := Lib.hid e1
  clear hc e1 hV hu
  generalize V.length = len at hr rn ⊢
  go_enter Try.func8, Try.ntmps8
  go_wp2_with (first
    | (go_at_call 38; (with_reducible refine (alive_any _).mono ?_); rintro e w1 ⟨rfl, o1⟩)
    | (go_at_call 39; (with_reducible refine (rn.out _ o1).mono ?_); rintro e w2 ⟨cb, rfl, k2⟩))
  obtain ⟨rg, B, base, pb, nb, ib, h3⟩ := k2.out
  obtain ⟨R, P, ins, K, C2, T, vo, it, tk, F⟩ := h3.fin (by omega)
  obtain ⟨iv, D2⟩ := C2.rd
  have ow := Lib.hid (o1.trans D2.only)
  have D2' := Lib.hid D2
  have F' := Lib.hid F
  have n1 := D2.short 0
  have n2 := D2.short 1
  have n3 := D2.short 2
  have hlen := F.len
  obtain ⟨aI, kI, eI, _⟩ := D2.iu 0 (by decide)
  obtain ⟨a0, k0, e0, _⟩ := D2.iu 1 (by decide)
  obtain ⟨a1, k1, e1, _⟩ := D2.iu 2 (by decide)
  have c3 := D2.c3
  have c4 := D2.c4
  have d0 := D2.ic 0 (by decide)
  have d1 := D2.ic 1 (by decide)
  rw [eI] at c3
  rw [e0] at d0
  rw [e1] at d1
  generalize hlI : (ins 0).length = lI at c3 n1 hlen
  generalize hl0 : (ins 1).length = l0 at d0 n2 hlen
  generalize hl1 : (ins 2).length = l1 at d1 n3 hlen
  have hlI' := Lib.hid hlI
  have hl0' := Lib.hid hl0
  have hl1' := Lib.hid hl1
  have sm : (lI : Int) = (l0 : Int) + (l1 : Int) := by omega
  clear k2 h3 C2 D2 F o1 rn eI e0 e1 hlI hl0 hl1 hlen
  have wl : IntKind.i64.wrap ((l0 : Int) + (l1 : Int)) = (l0 : Int) + (l1 : Int) := by rw [IntKind.wrap_i64]; omega
  go_wp2
  go_quiet (fail)
  go_wp2
  clear sm wl c3 c4 d0 d1 n2 n3
  go_loopw [6] (fun s6 wr => ∃ i : Nat, i ≤ lI ∧ s6 = .int .i64 (i : Int) ∧ Hid (Only Nil w2 wr))
    (fun s6 _ => lI - (intOf s6).toNat)
  case atStart => exact ⟨0, Nat.zero_le _, rfl, Lib.hid (by first | exact Only.refl _ _ | exact (Only.refl Nil w2).drewN _)⟩
  case round =>
    obtain ⟨i, hi, rfl, hO⟩ := hrel
    have D3 := D2'.out.keep hO.out (fun _ z => z.elim)
    have c3 := D3.c3
    have n0 := D3.short 0
    obtain ⟨aI, kI, eI, hI⟩ := D3.iu 0 (by decide)
    rw [eI] at c3
    rw [hlI'.out] at c3 n0
    by_cases hil : i < lI
    · have hil' : (i : Int) < (lI : Int) := by omega
      have hfin := Lib.hid (cntK_two F'.out (by rw [hlI'.out]; exact hil))
      have hg := Lib.hid hil
      generalize hx : (ins 0).getD i 0 = x at hfin
      have hx' := Lib.hid hx
      clear hi hil hI eI hx D3
      go_wp2
      have hO' := hO
      clear hO
      generalize wr = wo at *
      go_loopw [7, 8] (fun s7 s8 wr => ∃ kk n : Nat, kk ≤ 2 ∧ s8 = .int .i64 (kk : Int) ∧ s7 = .int .i64 (n : Int) ∧ Hid (n = cntK ins x kk) ∧ Hid (Only Nil w2 wr))
        (fun _ s8 _ => 2 - (intOf s8).toNat)
      case atStart => exact ⟨0, 0, Nat.zero_le _, rfl, rfl, Lib.hid rfl, hO'⟩
      case round =>
        obtain ⟨kk, n, hkk, rfl, rfl, hn, hO2⟩ := hrel
        by_cases hk2 : kk < 2
        · have hk2' : (kk : Int) < 2 := by omega
          have hgk := Lib.hid hk2
          clear hkk hk2 c3 hO'
          go_wp2
          generalize wr = wp at hO2 ⊢
          generalize hlk : (ins (kk + 1)).length = lk
          have hlk' := Lib.hid hlk
          have lkb : lk ≤ 100000 := by rw [← hlk]; exact D2'.out.short _
          have nb : n ≤ 200000 := by rw [hn.out]; exact cntK_le _ D2'.out.short kk (by have := hgk.out; omega)
          clear hlk
          go_loopw [7, 9] (fun s7 s9 wr => ∃ j m : Nat, j ≤ lk ∧ s9 = .int .i64 (j : Int) ∧ s7 = .int .i64 (m : Int) ∧ Hid (m = n + ((ins (kk + 1)).take j).count x) ∧ Hid (Only Nil w2 wr))
            (fun _ s9 _ => lk - (intOf s9).toNat)
          case atStart => exact ⟨0, n, Nat.zero_le _, rfl, rfl, Lib.hid (by simp), hO2⟩
          case round =>
            obtain ⟨j, m, hj, rfl, rfl, hm, hO3⟩ := hrel
            have D3 := D2'.out.keep hO3.out (fun _ z => z.elim)
            have c4 := D3.c4
            have dk := D3.ic kk hgk.out
            obtain ⟨aK, kK, eK, hK⟩ := D3.iu (kk + 1) (by have := hgk.out; omega)
            rw [eK] at dk
            rw [hlk'.out] at dk
            by_cases hjl : j < lk
            · have hjl' : (j : Int) < (lk : Int) := by omega
              have hgj := Lib.hid hjl
              obtain ⟨gK, rfl, _, hcK⟩ := hK j (by rw [hlk'.out]; exact hjl)
              have xj := hcK j (by rw [hlk'.out]; exact hjl)
              have c3 := D3.c3
              obtain ⟨aI2, kI2, eI2, hI2⟩ := D3.iu 0 (by decide)
              rw [eI2, hlI'.out] at c3
              obtain ⟨gI, rfl, _, hcI⟩ := hI2 i (by rw [hlI'.out]; exact hg.out)
              have xi := hcI i (by rw [hlI'.out]; exact hg.out)
              rw [hx'.out] at xi
              have mb : m ≤ 300000 := by rw [hm.out]; have := cnt_le (ins (kk + 1)) x j; have := hlk'.out; omega
              have tn := Lib.hid (take_next (X := ins (kk + 1)) (j := j) (by rw [hlk'.out]; exact hjl))
              generalize hy : (ins (kk + 1)).getD j 0 = y at xj tn
              clear hcK hK eK D3 hI2 hcI eI2 hj hjl hy
              have wm : IntKind.i64.wrap ((m : Int) + 1) = (m : Int) + 1 := by rw [IntKind.wrap_i64]; omega
              by_cases hxy : y = x
              · subst hxy
                go_wp2
                go_quiet (fail)
                go_wp2
                go_roundw
                case rel =>
                  refine ⟨j + 1, m + 1, by have := hgj.out; omega, by go_num, by go_num, Lib.hid ?_, Lib.hid (hO3.out.drewN _)⟩
                  rw [tn.out, List.count_append, hm.out]
                  simp
                  omega
                case measure => have := hgj.out; simp [intOf]; omega
              · go_wp2
                go_quiet (fail)
                go_wp2
                go_roundw
                case rel =>
                  refine ⟨j + 1, m, by have := hgj.out; omega, by go_num, by go_num, Lib.hid ?_, Lib.hid (hO3.out.drewN _)⟩
                  have z : ([y] : List Int).count x = 0 := List.count_eq_zero_of_not_mem (by intro z; simp at z; exact hxy z.symm)
                  rw [tn.out, List.count_append, hm.out, z]
                  omega
                case measure => have := hgj.out; simp [intOf]; omega
            · have hjl' : ¬ ((j : Int) < (lk : Int)) := by omega
              have hje : j = lk := by omega
              subst hje
              have hm2 : Hid (m = cntK ins x (kk + 1)) := Lib.hid (by
                rw [hm.out, hn.out, ← hlk'.out, List.take_length]; rfl)
              clear hK eK D3 hj hjl hm
              go_wp2
              go_roundw
              case rel => exact ⟨kk + 1, m, by have := hgk.out; omega, by go_num, by go_num, hm2, hO3⟩
              case measure => have := hgk.out; simp [intOf]; omega
        · have hke : kk = 2 := by omega
          subst hke
          have hn1 : n = 1 := hn.out.trans hfin.out
          subst hn1
          clear hkk hk2 c3 hO'
          go_wp2
          go_roundw
          case rel => exact ⟨i + 1, by have := hg.out; omega, by go_num, hO2⟩
          case measure => have := hg.out; simp [intOf]; omega
    · have hie : i = lI := by omega
      subst hie
      have hil' : ¬ ((i : Int) < (i : Int)) := by omega
      clear hI D3
      go_wp2
      go_ret
      exact ⟨rfl, (ow.out.trans hO.out).below (Nat.le_refl _) (fun _ h => h.elim)⟩

theorem once_all (k : Int) (a : Option Addr) (cap : Nat) (V : List Int) (w : World) (hk : 0 ≤ k ∧ k < 256) (hV : RowK .u8 w a V) (hu : ∀ n ∈ V, (Lit.int .u8 n).wf = true) (hr : V.length * 1 ≤ 140737488351232) :
    Calls Try.prog 8 #[.int .u8 k, .slice a V.length cap] w fun e w' => e = .returned (.bool true) ∧ Below w.heap.size w w' :=
  once_walk k a cap V (1 + k % 6).toNat w (by omega) (by omega) hk hV (u8s_of_wf hu) hr
end Go.Proofs.Ytfhbgabblegecaa.Gt
