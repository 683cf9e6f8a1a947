/- The regions as numbers (flat); two rows of numbers compared (Ints). -/
import Derived.Test.YtgpagfgedimjeaaAreaApartW
namespace Go.Proofs.Ytgpagfgedimjeaa
open Go.RowKit

/-- The regions as numbers. -/
def nums (L : List Reg) : List Int := L.flatMap fun r => [(r.1 : Int), (r.2 : Int)]
theorem regs_nums (L : List Reg) : regs L = (nums L).map (Value.int .i64) := by
  induction L with
  | nil => rfl
  | cons r L ih => rw [regs_cons, ih]; simp [nums]
theorem length_nums (L : List Reg) : (nums L).length = L.length * 2 := by
  have := regs_length L
  rw [regs_nums] at this
  simpa using this

/-- The slice at a, of the numbers X. -/
def IntsIn (w : World) (a : Option Addr) (X : List Int) : Prop :=
  ∀ i, i < X.length → ∃ g, a = some ⟨g, 0, none⟩ ∧ g < w.heap.size ∧ ∀ j, j < X.length → w.cell? ⟨g, j, none⟩ = some (.int .i64 (X.getD j 0))
theorem own_ints {w : World} {base : Nat} {a : Option Addr} {n cap : Nat} {X : List Int} (h : w.ownsRow base 3 1 (.slice a n cap) n (X.map (Value.int .i64))) : IntsIn w a X := by
  intro i hi
  have hl : X.length = n := by simpa using h.1
  rcases h.2 with ⟨_, h0⟩ | ⟨g, c, cur, hv, _, hg, _⟩
  · omega
  · simp only [Value.slice.injEq] at hv
    obtain ⟨rfl, _, rfl⟩ := hv
    refine ⟨g, rfl, lt_of_block hg, fun j hj => ?_⟩
    rw [h.cellAt _ (by omega)]
    simp [hj]
theorem IntsIn.keep {S : Nat → Prop} {w w' : World} {a : Option Addr} {X : List Int} (h : IntsIn w a X) (o : Only S w w') (hS : ∀ k b, a = some b → S k → k ≠ b.block) : IntsIn w' a X := by
  intro i hi
  obtain ⟨g, ha, hlt, hc⟩ := h i hi
  have e := o.block g hlt (fun s => hS g _ ha s rfl)
  exact ⟨g, ha, Nat.lt_of_lt_of_le hlt o.size, fun j hj => (World.cell?_of_block (a := ⟨g, j, none⟩) e).trans (hc j hj)⟩

/-- Ints, of two slices that hold the same numbers. -/
theorem ints_yes (w : World) (a1 a2 : Option Addr) (c1 c2 : Nat) (X : List Int) (h1 : IntsIn w a1 X) (h2 : IntsIn w a2 X) (hX : X.length ≤ 1000000) :
    Calls Try.prog 17 #[.slice a1 X.length c1, .slice a2 X.length c2] w fun e w' => e = .returned (.bool true) ∧ Only Nil w w' := by
  have k1 := Lib.hid h1
  have k2 := Lib.hid h2
  clear h1 h2
  generalize hlen : X.length = len at hX ⊢
  have hlen' := Lib.hid hlen
  clear hlen
  have hl2 : (len : Int) ≤ 1000000 := by omega
  go_enter Try.func17, Try.ntmps17
  go_wp2
  go_loopw [5] (fun i wr => ∃ (k n : Nat), k ≤ len ∧ i = .int .i64 (k : Int) ∧ wr = w.drewN n)
    (fun i _ => len - (intOf i).toNat)
  case atStart => exact ⟨0, 0, Nat.zero_le _, rfl, rfl⟩
  case round =>
    obtain ⟨k, n, hk, rfl, rfl⟩ := hrel
    by_cases hlt : k < len
    · obtain ⟨g1, rfl, _, q1⟩ := k1.out k (by rw [hlen'.out]; exact hlt)
      obtain ⟨g2, rfl, _, q2⟩ := k2.out k (by rw [hlen'.out]; exact hlt)
      have x1 : w.cell? ⟨g1, k, none⟩ = some (.int .i64 (X.getD k 0)) := q1 k (by rw [hlen'.out]; exact hlt)
      have x2 : w.cell? ⟨g2, k, none⟩ = some (.int .i64 (X.getD k 0)) := q2 k (by rw [hlen'.out]; exact hlt)
      clear q1 q2
      generalize X.getD k 0 = x at x1 x2
      go_wp2
      go_quiet (fail)
      go_wp2
      go_roundw
      case rel => exact ⟨k + 1, _, by omega, by go_num, rfl⟩
      case measure => simp [intOf]; omega
    · go_wp2
      go_ret
      exact ⟨rfl, (Only.refl _ _).drewN _⟩

theorem Try.infoInt : (Try.prog.info? 3).map (fun i => (i.zero, i.size, i.bytes)) = some (some (.int .i64 0), 1, 8) := by kernel_rfl

theorem own_slice_n {w : World} {b : Nat} {e : TypeId} {s : Nat} {v : Value} {n : Nat} {xs : List Value} (h : w.ownsRow b e s v n xs) : ∃ a c, v = .slice a n c := by
  rcases h.2 with ⟨rfl, rfl⟩ | ⟨g, c, _, h, _⟩
  · exact ⟨none, 0, rfl⟩
  · exact ⟨_, c, h⟩
/-- A step of one's own rows from B on. -/
theorem Only.grow {B : Nat} {w0 w w' : World} {base : Nat} {e : TypeId} {s : Nat} {v : Value} {n : Nat} {xs : List Value} (h : Only Nil w0 w) (hg : w.grownBy w' v.ownBlock) (ho : w.ownsRow base e s v n xs) (hb : base = B) (hB : w0.heap.size ≤ B) : Only Nil w0 w' := by
  subst hb
  refine h.then (Only.ofGrown hg) (fun i hi hlt => ?_)
  have := ho.lt i hi.symm
  omega
theorem src_one {w : World} {b : Nat} {u : Value} {t : TypeId} (h : w.heap[b]? = some (.cells #[u] t (0, 0))) : ∀ j v, [u][j]? = some v → w.cell? ((⟨b, 0, none⟩ : Addr).add j) = some v := by
  intro j v hj
  rw [add_lit0]
  match j, hj with
  | 0, hj => simp at hj; subst hj; simp [World.cell?, h]
  | j + 1, hj => simp at hj

theorem own_base {w : World} {b b' : Nat} {e : TypeId} {s : Nat} {v : Value} {n : Nat} {xs : List Value} (h : w.ownsRow b e s v n xs) (hb : b' ≤ b) : w.ownsRow b' e s v n xs := by
  refine ⟨h.1, h.2.imp id ?_⟩
  rintro ⟨g, c, cur, h1, h2, h3⟩
  exact ⟨g, c, cur, h1, Nat.le_trans hb h2, h3⟩
theorem one_one (x : Int) : ∀ u ∈ [Value.int .i64 x], u.oneCell' = true := by intro u hu; simp at hu; subst hu; rfl

set_option maxHeartbeats 2000000 in
/-- flat: the regions' numbers, in a row of its own. -/
theorem flat_any {w : World} {hb : Nat} {a : Option Addr} {cap n : Nat} {L : List Reg} (h : AreaAt w hb a cap n L) :
    Calls Try.prog 18 #[.pointer (some ⟨hb, 0, none⟩)] w fun e w' =>
      ∃ v, e = .returned v ∧ Hid (w'.ownsRow w.heap.size 3 1 v (L.length * 2) (regs L)) ∧ Only Nil w w' := by
  have lle := h.len
  have rc := Lib.hid (regions_any h)
  have hl := h.lt_hb
  have htk := Lib.hid (show ∀ k, k < L.length → regs (L.take (k + 1)) = regs (L.take k) ++ [.int .i64 ((regAt L k).1 : Int)] ++ [.int .i64 ((regAt L k).2 : Int)] from fun k hk => by
    rw [List.take_add_one, regAt_get L k hk, regs_append]; simp [regs_cons, regs_nil])
  have htf := Lib.hid (show regs (L.take L.length) = regs L by rw [List.take_length])
  clear h
  generalize hlen : L.length = len at lle rc htk htf ⊢
  have hlen' := Lib.hid hlen
  clear hlen
  have lle' : (len : Int) ≤ 65536 := by omega
  obtain ⟨i0, hi0, hz0, hz1, hz2⟩ := info_parts Try.infoInt
  have hu := Try.underlying39
  go_enter Try.func18, Try.ntmps18
  go_wp2_with (go_at_call 21; (with_reducible refine (rc.out).mono ?_); rintro e w1 ⟨rfl, hr, o1⟩)
  have rg := Lib.hid (regs_block hr)
  have o1' := Lib.hid o1
  clear hr o1 rc
  go_loopw [3, 5] (fun s3 s5 wr => ∃ (k : Nat), k ≤ len ∧ s5 = .int .i64 (k : Int) ∧ Hid (wr.ownsRow w1.heap.size 3 1 s3 (k * 2) (regs (L.take k))) ∧ Hid (Only Nil w1 wr))
    (fun _ s5 _ => len - (intOf s5).toNat)
  case atStart => exact ⟨0, Nat.zero_le _, rfl, Lib.hid (World.ownsRow_nil _ _ _ _), Lib.hid (Only.refl _ _)⟩
  case round =>
    obtain ⟨k, hk, rfl, hown, ho⟩ := hrel
    by_cases hlt : k < len
    · obtain ⟨g, hg0, hg1, hg2⟩ := (rg.out.keep ho.out (fun _ _ _ h => h.elim)) k (by rw [hlen'.out]; exact hlt)
      simp only [Option.some.injEq, Addr.mk.injEq, and_true] at hg0
      subst hg0
      obtain ⟨x0, x1⟩ := hg2 k (by rw [hlen'.out]; exact hlt)
      have e1 := Lib.hid (htk.out k hlt)
      clear hg2
      generalize hr : regAt L k = r at x0 x1 e1
      have hr' := Lib.hid hr
      clear hr
      obtain ⟨rb', rl⟩ := r
      simp only at x0 x1
      obtain ⟨a3, c3, rfl⟩ := own_slice_n hown.out
      obtain ⟨R, hR⟩ : ∃ R, R = regs (L.take k) := ⟨_, rfl⟩
      have hown' := hown.out
      rw [← hR] at hown'
      have hown2 := Lib.hid hown'
      have hR' := Lib.hid hR
      clear hown hown' hR
      have wsz := Lib.hid ho.out.size
      go_wp2_with (at_builtin; refine wpList_append_own _ rfl (.tmp 14) (.tmp 20) 39 rfl w1.heap.size 3 i0 (.int .i64 0) 1 8 hu hi0 hz0 hz1 hz2 rfl (by decide) (.slice a3 (k * 2) c3) (k * 2) R rfl (hown2.out.alloc _) ⟨wr.heap.size, 0, none⟩ 1 1 [.int .i64 (rb' : Int)] rfl rfl (src_one (heap_new wr (.cells #[.int .i64 (rb' : Int)] 3))) (one_one _) (by unfold maxLen; omega) (by omega) (Nat.le_trans wsz.out (by simp)) ?_)
      intro v4 w4 hv4 hg4 hn4
      clear hn4
      have o4 := Lib.hid ((ho.out.alloc _).grow hg4 (hown2.out.alloc (.cells #[.int .i64 (rb' : Int)] 3)) rfl (Nat.le_refl _))
      obtain ⟨a4, c4, rfl⟩ := own_slice_n hv4
      have hv4' := Lib.hid hv4
      clear hv4 hg4
      obtain ⟨g2, hg0, _, hg2⟩ := (rg.out.keep o4.out (fun _ _ _ h => h.elim)) k (by rw [hlen'.out]; exact hlt)
      simp only [Option.some.injEq, Addr.mk.injEq, and_true] at hg0
      subst hg0
      have y1 := (hg2 k (by rw [hlen'.out]; exact hlt)).2
      rw [hr'.out] at y1
      simp only at y1
      clear hg2 x0 x1
      have ho4 := Lib.hid o4.out.size
      have e1' := e1.out
      rw [← hR'.out] at e1'
      have e1'' := Lib.hid e1'
      clear e1'
      go_wp2_with (at_builtin; refine wpList_append_own _ rfl (.tmp 22) (.tmp 28) 39 rfl w1.heap.size 3 i0 (.int .i64 0) 1 8 hu hi0 hz0 hz1 hz2 rfl (by decide) (.slice a4 (k * 2 + 1) c4) (k * 2 + 1) (R ++ [.int .i64 (rb' : Int)]) rfl (hv4'.out.alloc _) ⟨w4.heap.size, 0, none⟩ 1 1 [.int .i64 (rl : Int)] rfl rfl (src_one (heap_new w4 (.cells #[.int .i64 (rl : Int)] 3))) (one_one _) (by unfold maxLen; omega) (by omega) (Nat.le_trans ho4.out (by simp)) ?_)
      intro v5 w5 hv5 hg5 hn5
      clear hn5
      have o5 := Lib.hid ((o4.out.alloc _).grow hg5 (hv4'.out.alloc (.cells #[.int .i64 (rl : Int)] 3)) rfl (Nat.le_refl _))
      have hv5' := Lib.hid hv5
      clear hv5 hg5
      go_wp2
      go_roundw
      case rel => exact ⟨k + 1, by omega, by go_num, Lib.hid (by rw [e1''.out, show (k + 1) * 2 = k * 2 + 1 + 1 by omega, List.append_assoc]; exact hv5'.out), o5⟩
      case measure => simp [intOf]; omega
    · obtain rfl : k = len := by omega
      have hk0 : ¬ (k : Int) < (k : Int) := by omega
      rw [htf.out] at hown
      go_wp2
      go_ret
      exact ⟨_, rfl, Lib.hid (own_base hown.out o1'.out.size), o1'.out.trans ho.out⟩
end Go.Proofs.Ytgpagfgedimjeaa
