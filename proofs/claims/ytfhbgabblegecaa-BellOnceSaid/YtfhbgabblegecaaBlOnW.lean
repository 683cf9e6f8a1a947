/- BellOnce answers true for all numbers, every row of sleepers and every list of picks, and turns nothing that there was: the walk. -/
import Derived.Test.YtfhbgabblegecaaBlOnA
namespace Go.Proofs.Ytfhbgabblegecaa.Bl
open Go.RowKit

theorem own_nilB (w : World) (b : Nat) : w.ownsRow b 38 1 (.slice none 0 0) 0 [] := World.ownsRow_nil _ _ _ _
theorem Try.infoOpB : (Try.prog.info? 38).map (fun i => (i.zero, i.size, i.bytes)) = some (some (.pointer none), 1, 8) := by kernel_rfl
theorem nap_bit (n : Nat) (A : List Bool) (i : Nat) : (napL n A n).getD i 0 = 0 ∨ ((napL n A n).getD i 0 = 1 ∧ A.getD i false = true) := by
  rw [napL_get]; split
  · rename_i h; exact .inr ⟨rfl, h.2.2⟩
  · exact .inl rfl
theorem sum_le (L : List Int) (k : Nat) (h : ∀ i, L.getD i 0 = 0 ∨ L.getD i 0 = 1) : 0 ≤ sumL L k ∧ sumL L k ≤ k := by
  induction k with
  | zero => simp [sumL]
  | succ k ih => simp only [sumL]; rcases h k with e | e <;> rw [e] <;> omega

/-- Which workers are roused by the first p. -/
def rs (r : Nat → OS) : Nat → Nat → Bool
  | 0, _ => false
  | p + 1, v => rs r p v || (match r p with | .over 7 x => decide (x = (v : Int)) | _ => false)
theorem rs_not (r : Nat → OS) (p v : Nat) (h : ∀ q, q < p → r q ≠ .over 7 (v : Int)) : rs r p v = false := by
  induction p with
  | zero => rfl
  | succ p ih =>
    unfold rs
    rw [ih (fun q hq => h q (by omega))]
    have hp := h p (by omega)
    generalize r p = s at hp
    split
    · rename_i x
      have : ¬ (x = (v : Int)) := fun e => hp (by rw [e])
      simp [this]
    · rfl
theorem rs_done (r : Nat → OS) (p v : Nat) (h : r p = .over 7 (v : Int)) : upd (rs r p) v true = rs r (p + 1) := by
  funext u
  unfold rs
  rw [h]
  by_cases e : u = v
  · subst e; rw [upd_same]; simp
  · rw [upd_other _ _ _ _ e]
    have : ¬ ((v : Int) = (u : Int)) := by omega
    simp [this]
theorem rs_none (r : Nat → OS) (p : Nat) (h : r p = .over 4 (-1)) : rs r p = rs r (p + 1) := by
  funext u
  conv => rhs; unfold rs
  rw [h]; simp
theorem rowC_upd (n : Nat) (f : Nat → Bool) (v : Nat) (x : Bool) : (rowC n (upd (fun j => Value.bool (f j)) v (.bool x))) = rowC n fun j => .bool (upd f v x j) := by
  apply rowC_congr
  intro i _
  unfold upd; split <;> rfl

theorem cnt_start (k : Nat) : cntR (fun _ => OS.look 0) k = 0 := by
  induction k with
  | zero => rfl
  | succ k ih => simp only [cntR]; rw [ih]; rfl
theorem bo_start (n k : Nat) (A : List Bool) (S0 : Int) (L0 : List Int) (hl : L0.length = n + 1) (hb : ∀ u, L0.getD u 0 = 0 ∨ (L0.getD u 0 = 1 ∧ A.getD u false = true)) (hn : 1 ≤ n) (hs : sumL L0 n = S0) : BO n k A S0 L0 (fun _ => .look 0) := by
  refine ⟨hl, fun u _ => hb u, fun p _ => .look 0 hn (fun u hu => by omega), fun p q x _ _ _ e => ?_, ?_⟩
  · cases e
  · rw [cnt_start]; omega
/-- At the end each Ring has roused one, or passed all. -/
theorem BO.fin {n k : Nat} {A : List Bool} {S0 : Int} {L : List Int} {r : Nat → OS} (h : BO n k A S0 L r) {p : Nat} (hp : p < k) (h0 : rk n (r p) = 0) :
    (∃ v : Nat, r p = .over 7 (v : Int) ∧ v < n ∧ A.getD v false = true ∧ L.getD v 0 = 0) ∨ (r p = .over 4 (-1)) := by
  have f := h.fm p hp
  generalize r p = s at f h0
  cases f with
  | look v hv _ => simp only [rk] at h0; omega
  | rouse v hv _ _ => simp only [rk] at h0; omega
  | done v hv ha hz => exact .inl ⟨v, rfl, hv, ha, hz⟩
  | none _ => exact .inr rfl
/-- How many are roused. -/
theorem BO.count {n k : Nat} {A : List Bool} {S0 : Int} {L : List Int} {r : Nat → OS} (h : BO n k A S0 L r) (h0 : ∀ p, p < k → rk n (r p) = 0) : cntR r k = min S0 (k : Int) := by
  have hs := h.sum
  have hc := cntR_nonneg r k
  have hz : 0 ≤ sumL L n := sumL_nonneg L n (fun i hi => by rcases h.bit i hi with e | ⟨e, _⟩ <;> omega)
  by_cases hall : ∀ p, p < k → isR (r p) = true
  · have := cntR_all r k hall; omega
  · obtain ⟨p, hp⟩ := Classical.not_forall.1 hall
    obtain ⟨hp, hn⟩ := Classical.not_imp.1 hp
    have hz2 : sumL L n = 0 := by
      rcases h.fin hp (h0 p hp) with ⟨v, e, _⟩ | e
      · rw [e] at hn; exact absurd rfl hn
      · have f := h.fm p hp
        rw [e] at f
        generalize hs2 : OS.over 4 (-1) = s2 at f
        cases f with
        | none hh => exact sumL_zero L n hh
        | _ => cases hs2
    omega
theorem Br.over {w1 w : World} {rg B gb k n len : Nat} {A : List Bool} {S0 T : Int} {L : List Int} {t : Int} {ob : Nat → Nat} {r : Nat → OS} (h : Br w1 w rg B gb k n len (len + 20 * k) A S0 T L t ob r) (hk : 0 < k) : ∀ p, p < k → rk n (r p) = 0 := fun p hp => by
  have := h.tu p hp
  have := hit_twenty k p len hk
  omega

set_option maxRecDepth 100000 in
set_option maxHeartbeats 16000000 in
theorem once_walk (x z : Int) (a2 a : Option Addr) (cap2 cap : Nat) (A : List Bool) (V : List Int) (n k : Nat) (w : World) (hx : 0 ≤ x ∧ x < 256) (hz : 0 ≤ z ∧ z < 256) (e1 : 1 + x % 8 = (n : Int)) (e2 : 1 + z % 5 = (k : Int)) (hn : 1 ≤ n ∧ n ≤ 8) (hk : 1 ≤ k ∧ k ≤ 5)
    (hA : RowBo w a2 A) (hrA : A.length * 1 ≤ 140737488351232) (hV : RowK .u8 w a V) (hu : ∀ j, 0 ≤ V.getD j 0 ∧ V.getD j 0 < 256) (hr : V.length * 1 ≤ 140737488351232) :
    Calls Try.prog 5 #[.int .u8 x, .slice a2 A.length cap2, .int .u8 z, .slice a V.length cap] w fun e w' => e = .returned (.bool true) ∧ Below w.heap.size w w' := by
  have md := Lib.hid (fun w1 (o : Only Nil w w1) => made_any w1 n (by omega) (by omega) a2 A cap2 (hA.later (o.below (Nat.le_refl _) (fun _ h => h.elim))) (by omega))
  have hbit := nap_bit n A
  generalize hL : napL n A n = L0 at hbit
  have hlen0 : L0.length = n + 1 := by rw [← hL, napL_length]
  simp only [hL] at md
  have hmk := fun (w : World) => run_make_row' (P := Try.prog) 58 4 (.bool false) 1 Try.underlying58 Try.infoBool rfl .i64 .i64 n (by omega) (by omega) w
  simp only [made_row] at hmk
  obtain ⟨i0, hi0, hz0, hz1, hz2⟩ := info_parts Try.infoOpB
  have hu7 := Try.underlying34
  obtain ⟨x1, x2⟩ := hx
  obtain ⟨y1, y2⟩ := hz
  have hn' := Lib.hid hn
  have hk' := Lib.hid hk
  have hA' := Lib.hid hA
  have hV' := Lib.hid hV
  have hu' := Lib.hid hu
  have n8 : (n : Int) ≤ 8 := by omega
  have k8 : (k : Int) ≤ 5 := by omega
  have ne0 : ¬ ((k : Int) = 0) := by omega
  have hbit' := Lib.hid hbit
  have hlen0' := Lib.hid hlen0
  clear hn hk hV hu hA hL hbit hlen0
  generalize hlen : V.length = len at hr ⊢
  have hlen' := Lib.hid hlen
  clear hlen
  have len8 : (len : Int) ≤ 140737488351232 := by omega
  go_enter Try.func5, Try.ntmps5
  go_wp2_with (first
    | (go_at_call 13; (with_reducible refine (alive_any _).mono ?_); rintro e w1 ⟨rfl, o1⟩)
    | (go_at_call 29; (with_reducible refine (md.out _ o1).mono ?_); rintro e w2 ⟨rg, rfl, l2x⟩; obtain ⟨t, l2, ht⟩ := l2x.out))
  have ow := Lib.hid o1
  have l2' := Lib.hid l2
  have ht' := Lib.hid ht
  have e12 := Lib.hid l2.only.size
  clear o1 l2 l2x md ht
  generalize hB : w1.heap.size = B at l2'
  have hB' := Lib.hid hB
  clear hB
  go_loopw [13, 14] (fun s13 s14 wr => ∃ i : Nat, i ≤ n ∧ s13 = .int .i64 (sumL L0 i) ∧ s14 = .int .i64 (i : Int) ∧ Hid (Lw w1 wr rg (B + 1) B 0 n L0 t))
    (fun _ s14 _ => n - (intOf s14).toNat)
  case atStart => exact ⟨0, Nat.zero_le _, rfl, rfl, l2'⟩
  case round =>
    obtain ⟨i, hi, rfl, rfl, hl⟩ := hrel
    by_cases hin : i < n
    · have hii : (i : Int) < (n : Int) := by omega
      have pk := Lib.hid (peek_yes hl.out.rng.mem i (by rw [hlen0'.out]; omega))
      have sl := sum_le L0 i (fun i => (hbit'.out i).imp id And.left)
      have bi : L0.getD i 0 = 0 ∨ L0.getD i 0 = 1 := (hbit'.out i).imp id And.left
      have es : sumL L0 i + L0.getD i 0 = sumL L0 (i + 1) := rfl
      have es' := Lib.hid es
      have hi2 := Lib.hid hin
      have wy : IntKind.i64.wrap (L0.getD i 0) = L0.getD i 0 := IntWalk.i64_in _ (by omega)
      have wz : IntKind.i64.wrap (sumL L0 i + L0.getD i 0) = sumL L0 i + L0.getD i 0 := IntWalk.i64_in _ (by omega)
      clear hin hi es bi sl
      generalize L0.getD i 0 = y at *
      generalize sumL L0 i = s at *
      go_wp2_with (go_at_call 30; (with_reducible refine (pk.out).mono ?_); rintro e w3 ⟨rfl, rfl⟩)
      go_roundw
      case rel => exact ⟨i + 1, by have := hi2.out; omega, by rw [es'.out], by go_num, hl⟩
      case measure => have := hi2.out; simp [intOf]; omega
    · obtain rfl : i = n := by omega
      have hii : ¬ ((i : Int) < (i : Int)) := by omega
      have hS := Lib.hid (sum_le L0 i (fun j => (hbit'.out j).imp id And.left))
      obtain ⟨S0, hS0⟩ : ∃ S, sumL L0 i = S := ⟨_, rfl⟩
      rw [hS0] at hS ⊢
      have hS0' := Lib.hid hS0
      clear hi hin hS0
      generalize wr = wf at hl ⊢
      go_wp2_with (fail)
      have B0 : Hid (Bo w1 wf rg B 0 i (.slice none 0 0) L0 t (fun _ => 0) (fun _ => .look 0)) := Lib.hid
        ⟨own_nilB _ _, hl.out, fun p hp => by omega, fun p q hp => by omega⟩
      clear hl l2'
      go_loopw [15, 16] (fun s15 s16 wr => ∃ j : Nat, j ≤ k ∧ s16 = .int .i64 (j : Int) ∧ Hid (∃ ob, Bo w1 wr rg B j i s15 L0 t ob (fun _ => .look 0)))
        (fun _ s16 _ => k - (intOf s16).toNat)
      case atStart => exact ⟨0, Nat.zero_le _, rfl, Lib.hid ⟨_, B0.out⟩⟩
      case round =>
        obtain ⟨j, hj, rfl, hh⟩ := hrel
        obtain ⟨ob, hb⟩ := hh.out
        by_cases hjk : j < k
        · have hjj : (j : Int) < (k : Int) := by omega
          obtain ⟨a7, c7, rfl⟩ := own_slice_n hb.own
          have hb' := Lib.hid hb
          have hbs := Lib.hid hb.lw.only.size
          obtain ⟨xs, hxs⟩ : ∃ xs, xs = ((List.range j).map fun j => Value.pointer (some ⟨ob j, 0, none⟩)) := ⟨_, rfl⟩
          have hxs' := Lib.hid hxs
          have hown : Hid (wr.ownsRow w1.heap.size 38 1 (.slice a7 j c7) j xs) := Lib.hid (hxs ▸ hb.own)
          have i8 := Lib.hid hjk
          have ri := Lib.hid (hb.lw.ring)
          clear hb hh hxs hj hjk
          go_wp2_with (first
            | (go_at_call 31; (with_reducible refine (ri.out).mono ?_); rintro e w3 ⟨rfl, l3, q3, o3, z3⟩)
            | (at_builtin; refine wpList_append_own _ rfl (.tmp 57) (.tmp 60) 34 rfl w1.heap.size 38 i0 (.pointer none) 1 8 hu7 hi0 hz0 hz1 hz2 rfl (by decide) (.slice a7 j c7) j xs rfl ((own_keep hown.out o3 (fun _ _ h => h)).alloc _) ⟨w3.heap.size, 0, none⟩ 1 1 [.pointer (some ⟨wr.heap.size, 0, none⟩)] rfl rfl (src_one (heap_new w3 (.cells #[.pointer (some ⟨wr.heap.size, 0, none⟩)] 38))) (by intro u hu; simp at hu; subst hu; rfl) (by have := i8.out; have := hk'.out; unfold maxLen; omega) (by have := i8.out; have := hk'.out; omega) (Nat.le_trans hbs.out (by have := o3.size; simp; omega)) ?_))
          intro v4 w4 hv4 hg4 hn4
          have nx := Lib.hid (hb'.out.next (fun _ _ _ => trivial) l3 q3 o3 _ (hxs'.out ▸ hv4) hg4)
          clear l3 q3 o3 z3 hv4 hg4 hn4
          go_wp2
          go_roundw
          case rel => exact ⟨j + 1, by have := i8.out; omega, by go_num, Lib.hid ⟨_, by
            have := nx.out
            rw [show upd (fun _ => OS.look 0) j (.look 0) = fun _ => .look 0 from funext fun q => by unfold upd; split <;> rfl] at this
            exact this⟩⟩
          case measure => have := i8.out; simp [intOf]; omega
        · have hkj : k = j := by omega
          subst hkj
          have hjj : ¬ ((k : Int) < (k : Int)) := by omega
          have bo0 : BO i k A S0 L0 (fun _ => .look 0) := bo_start i k A S0 L0 hlen0'.out (fun u => hbit'.out u) hn'.out.1 hS0'.out
          obtain ⟨gb, c7, rfl, F0⟩ := hb.all (T := 100 + ((0 : Nat) : Int)) (by have := hk'.out; omega) bo0 len (by have := ht'.out; omega)
          have F0' := Lib.hid F0
          clear hb hh F0 hj hjk B0 bo0
          generalize wr = wo at F0' ⊢
          go_wp2
          go_loopw [17] (fun s17 wr => ∃ m : Nat, m ≤ len + 20 * k ∧ s17 = .int .i64 (m : Int) ∧ Hid (∃ L t r, Br w1 wr rg B gb k i len m A S0 (100 + (m : Int)) L t ob r))
            (fun s17 _ => len + 20 * k - (intOf s17).toNat)
          case atStart => exact ⟨0, Nat.zero_le _, rfl, Lib.hid ⟨_, _, _, F0'.out⟩⟩
          case round =>
            obtain ⟨m, hm, rfl, hh⟩ := hrel
            obtain ⟨L, t2, r, F⟩ := hh.out
            by_cases hin : m < len + 20 * k
            · have hii : (m : Int) < (len : Int) + 20 * (k : Int) := by omega
              have mt : Int.tmod (m : Int) (k : Int) = ((m % k : Nat) : Int) := rfl
              have me : (m : Int) % (k : Int) = ((m % k : Nat) : Int) := rfl
              have mr := Nat.mod_lt m (show 0 < k by have := hk'.out; omega)
              clear hm
              by_cases hil : m < len
              · have hli : (m : Int) < (len : Int) := by omega
                obtain ⟨b, off, rfl, hb1, hb2⟩ := (hV'.out.keep (ow.out.trans F.lw.only)) m (by rw [hlen'.out]; exact hil)
                have hx : wr.cell? ⟨b, off + m, none⟩ = some (.int .u8 (V.getD m 0)) := hb2 m (by rw [hlen'.out]; exact hil)
                obtain ⟨y0, y1⟩ := hu'.out m
                clear hb2
                generalize V.getD m 0 = x at hx y0 y1
                have wx : IntKind.i64.wrap x = x := IntWalk.i64_in _ (by omega)
                obtain ⟨y, rfl⟩ := Int.eq_ofNat_of_zero_le y0
                have mt2 : Int.tmod (y : Int) (k : Int) = ((y % k : Nat) : Int) := rfl
                have me2 : (y : Int) % (k : Int) = ((y % k : Nat) : Int) := rfl
                have hp := Nat.mod_lt y (show 0 < k by have := hk'.out; omega)
                generalize y % k = p at mt2 me2 hp
                generalize m % k = rr at mt me mr
                clear mr
                have cc := F.gc p hp
                have p0 : (p : Int) < (k : Int) := by omega
                have st := Lib.hid (F.step hp (.inl hil) (by omega))
                have hi2 := Lib.hid hin
                clear F hh hin hp hil
                go_wp2_with (go_at_call 20; (with_reducible refine (st.out).mono ?_); rintro e w3 ⟨x3, rfl, h3⟩)
                have h3' := Lib.hid h3
                clear h3
                go_roundw
                case rel => exact ⟨m + 1, by have := hi2.out; omega, by go_num, Lib.hid (by have h := h3'.out; rw [show (100 : Int) + (m : Int) + 1 = 100 + ((m + 1 : Nat) : Int) by omega] at h; exact h)⟩
                case measure => have := hi2.out; simp [intOf]; omega
              · have hli : ¬ ((m : Int) < (len : Int)) := by omega
                have st := Lib.hid (F.step mr (.inr rfl) (by omega))
                have cc := F.gc _ mr
                generalize m % k = p at mt me mr st cc
                have p0 : (p : Int) < (k : Int) := by omega
                have hi2 := Lib.hid hin
                clear F hh hin mr hil
                go_wp2_with (go_at_call 20; (with_reducible refine (st.out).mono ?_); rintro e w3 ⟨x3, rfl, h3⟩)
                have h3' := Lib.hid h3
                clear h3
                go_roundw
                case rel => exact ⟨m + 1, by have := hi2.out; omega, by go_num, Lib.hid (by have h := h3'.out; rw [show (100 : Int) + (m : Int) + 1 = 100 + ((m + 1 : Nat) : Int) by omega] at h; exact h)⟩
                case measure => have := hi2.out; simp [intOf]; omega
            · have hin2 : m = len + 20 * k := by omega
              subst hin2
              have hii : ¬ (((len + 20 * k : Nat) : Int) < (len : Int) + 20 * (k : Int)) := by omega
              have F' := Lib.hid F
              clear F hh hm hin F0'
              generalize wr = wF at F' ⊢
              have hov := Lib.hid (F'.out.over (by have := hk'.out; omega))
              have hcnt := Lib.hid (F'.out.bo.count hov.out)
              go_wp2_with (fail)
              have hrn := heap_new wF (.cells (rowC i fun _ => .bool false) 4)
              have R0 : Hid ((wF.alloc (.cells (rowC i fun _ => .bool false) 4)).heap[wF.heap.size]? = some (.cells (rowC i fun v => .bool (rs r 0 v)) 4 (0, 0))) := Lib.hid hrn
              have FA := Lib.hid (F'.out.nil ((Only.refl Nil wF).alloc (.cells (rowC i fun _ => .bool false) 4)))
              have sF := Lib.hid F'.out.lw.only.size
              have oF := Lib.hid F'.out.lw.only
              clear hrn hmk F'
              generalize hrb : wF.heap.size = rb at R0 sF ⊢
              generalize hwA : wF.alloc (.cells (rowC i fun _ => .bool false) 4) = wA at R0 FA ⊢
              have hwA' := Lib.hid hwA
              clear hwA
              have nrb : Hid (∀ q, q < k → ob q ≠ rb) := Lib.hid (fun q hq e => by
                obtain ⟨_, _, _, hc⟩ := (FA.out.op q hq).op.cells
                exact blk_ne R0.out hc.head (by decide) e.symm)
              have nmb : Hid (rb ≠ B + 1 ∧ rb ≠ B ∧ rb ≠ gb ∧ rb ≠ rg) := Lib.hid (by
                obtain ⟨cur, gh⟩ := FA.out.gh
                exact ⟨blk_ne R0.out FA.out.lw.rng.mem.head (by decide), blk_ne R0.out FA.out.lw.rng.mem.row (by decide), blk_ne R0.out gh (by decide), blk_ne R0.out FA.out.lw.rng.ring.head (by decide)⟩)
              have hrb' := Lib.hid hrb
              clear hrb
              go_loopw [20, 21] (fun s20 s21 ws => ∃ p : Nat, p ≤ k ∧ s20 = .int .i64 (cntR r p) ∧ s21 = .int .i64 (p : Int) ∧ Hid (Only (fun q => q = rb) wA ws) ∧ Hid (ws.heap[rb]? = some (.cells (rowC i fun v => .bool (rs r p v)) 4 (0, 0))))
                (fun _ s21 _ => k - (intOf s21).toNat)
              case atStart => exact ⟨0, Nat.zero_le _, rfl, rfl, Lib.hid (Only.refl _ _), R0⟩
              case round =>
                obtain ⟨p, hp, rfl, rfl, hO, hR⟩ := hrel
                by_cases hpk : p < k
                · have p0 : (p : Int) < (k : Int) := by omega
                  have q1 := (FA.out.op p hpk).keep hO.out (nrb.out p hpk) ((FA.out.bo.fm p hpk).apart _)
                  obtain ⟨cur, gh⟩ := FA.out.gh
                  have cc := (World.cell?_of_block (a := ⟨gb, p, none⟩) (hO.out.block gb (lt_of_block gh) (fun e => nmb.out.2.2.1 e.symm))).trans (FA.out.gc p hpk)
                  have ov := Lib.hid (fun m => overO (n := i) (q1.op.nil ((Only.refl Nil wr).drewN m)) q1.ok)
                  have oc := Lib.hid (fun m => outcomeO (q1.op.nil ((Only.refl Nil wr).drewN m)))
                  have wh := Lib.hid (fun m => whoO (q1.op.nil ((Only.refl Nil wr).drewN m)))
                  have cn := cntR_nonneg r p
                  have hp2 := Lib.hid hpk
                  rcases FA.out.bo.fin hpk (hov.out p hpk) with ⟨v, hv, hvn, hva, hv0⟩ | hv
                  · have e1 : cntR r (p + 1) = cntR r p + 1 := by simp only [cntR]; rw [hv]; simp [isR]
                    have er := rs_done r p v hv
                    have e0 : rs r p v = false := rs_not r p v (fun q hq e => FA.out.bo.dis q p (v : Int) (by omega) hpk (by omega) e hv)
                    have crv := row_cell hR.out v hvn
                    rw [e0] at crv
                    have frv := row_frozen hR.out v
                    have hR2 := Lib.hid (row_set hR.out v (.bool true))
                    rw [rowC_upd, er] at hR2
                    have hvA : v < A.length := by
                      apply Classical.byContradiction; intro hc
                      have : A.getD v false = false := by simp [List.getElem?_eq_none (by omega : A.length ≤ v)]
                      rw [this] at hva; cases hva
                    obtain ⟨b, off, rfl, hb1, hb2⟩ := hA'.out v hvA
                    have b2 : b < wF.heap.size := Nat.lt_of_lt_of_le hb1 (ow.out.trans oF.out).size
                    have brb : b ≠ rb := by
                      rw [← hrb'.out]; omega
                    have hxa : wr.cell? ⟨b, off + v, none⟩ = some (.bool (A.getD v false)) :=
                      (World.cell?_of_block (a := ⟨b, off + v, none⟩) ((hO.out.block b (by rw [← hwA'.out]; simp; omega) brb).trans (by rw [← hwA'.out]; exact (Below.heap_alloc _ _ _ b2).trans ((ow.out.trans oF.out).block b hb1 (fun h => h))))).trans (hb2 v hvA)
                    rw [hva] at hxa
                    have mm := FA.out.lw.rng.mem.keep hO.out (fun e => nmb.out.1 e.symm) (fun e => nmb.out.2.1 e.symm)
                    have pk := Lib.hid (fun m => peek_yes (mm.drewN m) v (by rw [FA.out.bo.len]; omega))
                    rw [hv0] at pk
                    have v0 : (v : Int) < (i : Int) := by omega
                    have vA : (v : Int) < (A.length : Int) := by omega
                    have hrA2 : (A.length : Int) ≤ 140737488351232 := by omega
                    have wc : IntKind.i64.wrap (cntR r p + 1) = cntR r p + 1 := IntWalk.i64_in _ (by omega)
                    rw [hv] at ov oc wh
                    simp only [OS.o, OS.x, OS.isO] at ov oc wh
                    clear q1 gh cn hp hpk hv e0 er mm b2 brb hb1 hb2 hva hv0 hvn hvA hrA
                    generalize hc1 : cntR r p = c1 at *
                    have e1' := Lib.hid e1
                    clear e1 hc1
                    go_wp2
                    go_quiet ((first
                      | (go_at_call 17; exact quiet_same (ov.out _))
                      | (go_at_call 32; exact quiet_same (oc.out _))
                      | (go_at_call 33; exact quiet_same (wh.out _))))
                    go_wp2_with (first
                      | (go_at_call 33; (with_reducible refine (wh.out _).mono ?_); rintro e w5 ⟨rfl, rfl⟩)
                      | (go_at_call 30; (with_reducible refine (pk.out _).mono ?_); rintro e w5 ⟨rfl, rfl⟩))
                    go_roundw
                    case rel => exact ⟨p + 1, by have := hp2.out; omega, by rw [e1'.out], by go_num, Lib.hid ((hO.out.drewN _).setCell (p := ⟨rb, v, none⟩) rfl (.bool true)), hR2⟩
                    case measure => have := hp2.out; simp [intOf]; omega
                  · have e1 : cntR r (p + 1) = cntR r p := by simp only [cntR]; rw [hv]; simp [isR]
                    rw [rs_none r p hv, ← e1] at *
                    rw [hv] at ov oc wh
                    simp only [OS.o, OS.x, OS.isO] at ov oc wh
                    clear q1 gh cn hp hpk hv e1
                    go_wp2
                    go_quiet ((first
                      | (go_at_call 17; exact quiet_same (ov.out _))
                      | (go_at_call 32; exact quiet_same (oc.out _))
                      | (go_at_call 33; exact quiet_same (wh.out _))))
                    go_wp2_with (go_at_call 33; (with_reducible refine (wh.out _).mono ?_); rintro e w5 ⟨rfl, rfl⟩)
                    go_roundw
                    case rel => exact ⟨p + 1, by have := hp2.out; omega, rfl, by go_num, Lib.hid (hO.out.drewN _), hR⟩
                    case measure => have := hp2.out; simp [intOf]; omega
                · have hpk2 : k = p := by omega
                  subst hpk2
                  have p0 : ¬ ((k : Int) < (k : Int)) := by omega
                  have hc := hcnt.out
                  have fin : Hid (Below w.heap.size w wr) := Lib.hid (((ow.out.trans oF.out).alloc _).then (hwA'.out ▸ hO.out) (fun q hq hl => by have := hrb'.out; have := ow.out.size; have := oF.out.size; omega) |>.below (Nat.le_refl _) (fun _ h => h.elim))
                  generalize cntR r k = c1 at *
                  clear hp hpk hO hR
                  subst hc
                  go_wp2
                  go_ret
                  exact ⟨rfl, fin.out⟩

theorem once_all (x z : Int) (a2 a : Option Addr) (cap2 cap : Nat) (A : List Bool) (V : List Int) (w : World) (hx : 0 ≤ x ∧ x < 256) (hz : 0 ≤ z ∧ z < 256)
    (hA : RowBo w a2 A) (hrA : A.length * 1 ≤ 140737488351232) (hV : RowK .u8 w a V) (hu : ∀ n ∈ V, (Lit.int .u8 n).wf = true) (hr : V.length * 1 ≤ 140737488351232) :
    Calls Try.prog 5 #[.int .u8 x, .slice a2 A.length cap2, .int .u8 z, .slice a V.length cap] w fun e w' => e = .returned (.bool true) ∧ Below w.heap.size w w' := by
  obtain ⟨n, hn⟩ := Int.eq_ofNat_of_zero_le (show 0 ≤ 1 + x % 8 by omega)
  obtain ⟨k, hk⟩ := Int.eq_ofNat_of_zero_le (show 0 ≤ 1 + z % 5 by omega)
  exact once_walk x z a2 a cap2 cap A V n k w hx hz hn hk (by omega) (by omega) hA hrA hV (u8s_of_wf hu) hr
end Go.Proofs.Ytfhbgabblegecaa.Bl
