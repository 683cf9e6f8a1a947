/- wheel, the document's: a Wheel that is being made; Where; Same. -/
import Derived.Test.YtpmgmdlfnlmieaaWhTa
namespace Go.Proofs.Ytpmgmdlfnlmieaa.Wh
open Go.RowKit Go.Proofs.Ytpmgmdlfnlmieaa

theorem own_ne {w : World} {base : Nat} {e : TypeId} {s n g : Nat} {v : Value} {xs : List Value} {y : Array Value} {t : TypeId} {m : Nat × Nat} (h : w.ownsRow base e s v n xs) (hg : w.heap[g]? = some (.cells y t m)) (ht : e ≠ t) : ¬ (some g = v.ownBlock) := by
  rcases h.2 with ⟨rfl, _⟩ | ⟨g', cap, cur, rfl, _, hh, _⟩
  · simp [Value.ownBlock]
  · intro he
    have : g = g' := by simpa [Value.ownBlock] using he
    subst this
    exact blk_ne hh hg ht rfl

/-- append of a whole row to nil: a new row, or nothing. -/
theorem run_append_copy {P : Program} {w : World} {t ty e : TypeId} {z : Value} {bytes : Nat} (ht : P.underlying t = some (.slice e)) (hi : (P.info? e).map (fun i => (i.zero, i.size, i.bytes)) = some (some z, 1, bytes)) (hzs : z.cells.size = 1) (hb : bytes ≤ 65536)
    {x : Value} {n : Nat} {ys : List Value} (hx : w.ownsRow 0 e 1 x n ys) (hn : n ≤ 65536) :
    ∃ a' c' w', (Builtin.append_ #[t, t] ty #[.slice none 0 0, x]).run P w = .ok (.slice a' n c') w' ∧ w'.ownsRow 0 e 1 (.slice a' n c') n ys ∧ Only Nil w w' ∧ ∀ y, a' = some y → w.heap.size ≤ y.block := by
  obtain ⟨i0, hi0, hz0, hz1, hz2⟩ := info_parts hi
  by_cases h0 : n = 0
  · subst h0
    have hys : ys = [] := List.eq_nil_of_length_eq_zero (by simpa using hx.1)
    subst hys
    refine ⟨none, 0, w, ?_, World.ownsRow_nil _ _ _ _, Only.refl _ _, fun y h => by simp at h⟩
    rcases hx.2 with ⟨rfl, _⟩ | ⟨g, cap, cur, rfl, _⟩
    · simp [Builtin.append_, run_underlying ht, sizeOf, typeInfo, hi0, Builtin.lenOf, Builtin.firstCells]
    · have hf := run_firstCells_some (P := P) w i0.size 0 ⟨g, 0, none⟩ 0 cap [] (by simp) (by simp)
      simp [Builtin.append_, run_underlying ht, sizeOf, typeInfo, hi0, Builtin.lenOf, hf]
  · rcases hx.2 with ⟨_, hh⟩ | ⟨g, cap, cur, rfl, _, hg, hnc, _, hcs, htake⟩
    · omega
    · have hbb : n * bytes ≤ 65536 * 65536 := Nat.mul_le_mul hn hb
      obtain ⟨c', w', hr, ho, hon⟩ := run_append_new (P := P) w t ty _ i0 _ 1 bytes ht hi0 hz0 hz1 hz2 hzs none 0 [] (World.ownsRow_nil _ _ _ _) ⟨g, 0, none⟩ n cap (by omega) ys (by have := hx.1; omega) (fun j u hj => by
        have hj' : j < n := by have := (List.getElem?_eq_some_iff.1 hj).1; have := hx.1; omega
        rw [add_lit0, Nat.zero_add, hx.cellAt j (by omega)]; exact hj) (by unfold maxLen; omega) (by rw [Nat.zero_add]; omega)
      rw [Nat.zero_add] at hr ho
      exact ⟨_, _, w', hr, by simpa using ho, hon, fun y hy => by simp only [Option.some.injEq] at hy; rw [← hy]; exact Nat.le_refl _⟩

/-- World w holds at O a Wheel of the document's that was laid behind w0: now, the rows i and d of the ids of I and the due ticks of D. -/
structure OutAt (w0 w : World) (O : Nat) (n : Int) (i d : Value) (I D : List Tm) : Prop where
  head : w.heap[O]? = some (.cells #[.int .i64 n, i, d] 29 (0, 0))
  ri : w.ownsRow 0 30 1 i I.length (ids I)
  rd : w.ownsRow 0 3 1 d D.length (dues D)
  fo : w0.heap.size ≤ O
  fi : ∀ k, i.ownBlock = some k → w0.heap.size ≤ k
  fd : ∀ k, d.ownBlock = some k → w0.heap.size ≤ k
  only : Only Nil w0 w
section
variable {w0 w X w5 : World} {O : Nat} {n : Int} {i d : Value} {I D : List Tm}
theorem OutAt.lt (h : OutAt w0 w O n i d I D) : O < w.heap.size := lt_of_block h.head
theorem OutAt.nil (h : OutAt w0 w O n i d I D) (o : Only Nil w X) : OutAt w0 X O n i d I D :=
  ⟨(o.block O h.lt (fun h => h.elim)).trans h.head, own_keep h.ri o (fun _ _ h => h), own_keep h.rd o (fun _ _ h => h), h.fo, h.fi, h.fd, h.only.trans o⟩
theorem OutAt.c0 (h : OutAt w0 w O n i d I D) : w.cell? ⟨O, 0, none⟩ = some (.int .i64 n) := by simp [World.cell?, h.head]
theorem OutAt.c1 (h : OutAt w0 w O n i d I D) : w.cell? ⟨O, 1, none⟩ = some i := by simp [World.cell?, h.head]
theorem OutAt.c2 (h : OutAt w0 w O n i d I D) : w.cell? ⟨O, 2, none⟩ = some d := by simp [World.cell?, h.head]
theorem OutAt.fz (h : OutAt w0 w O n i d I D) (o : Nat) : w.frozen? ⟨O, o, none⟩ = false := by simp [World.frozen?, h.head]

/-- Its ids' row has grown, and is stored. -/
theorem OutAt.setId {a a' : Option Addr} {len c len' c' : Nat} {I' : List Tm} (h : OutAt w0 w O n i d I D) (oX : Only Nil w X) (hi : i = .slice a len c) (ho : w5.ownsRow 0 30 1 (.slice a' len' c') len' (ids I')) (hon : Only (RowOf a) X w5) (hsn : SameOrNew X a a') :
    (w5.heap[O]? = some (.cells #[.int .i64 n, i, d] 29 (0, 0))) ∧ OutAt w0 (w5.setCell ⟨O, 1, none⟩ (.slice a' len' c')) O n (.slice a' len' c') d I' D := by
  have hX := h.nil oX
  have hl : I'.length = len' := by have := ho.1; simp [ids] at this; exact this
  have hrow : ∀ q, RowOf a q → some q = i.ownBlock := by rintro q ⟨x, rfl, rfl⟩; rw [hi]; rfl
  have hO : ¬ RowOf a O := fun hr => own_ne hX.ri hX.head (by decide) (hrow O hr)
  have hhead := (hon.block O hX.lt hO).trans hX.head
  have hd : ∀ q, some q = d.ownBlock → ¬ RowOf a q := by
    intro q hq hr
    rcases hX.rd.2 with ⟨e, _⟩ | ⟨g, cap, cur, e, _, hg, _⟩
    · rw [e] at hq; simp [Value.ownBlock] at hq
    · have : q = g := by rw [e] at hq; simpa [Value.ownBlock] using hq
      subst this
      exact own_ne hX.ri hg (by decide) (hrow q hr)
  have osc : Only (fun k => k = O) w5 (w5.setCell ⟨O, 1, none⟩ (.slice a' len' c')) := (Only.refl (fun k => k = O) w5).setCell (p := ⟨O, 1, none⟩) rfl _
  refine ⟨hhead, ⟨by rw [heap_setCell_self _ hhead]; rfl, ?_, ?_, h.fo, ?_, h.fd, ?_⟩⟩
  · rw [hl]
    exact own_keep ho osc (fun k hk e => own_ne ho hhead (by decide) (by rw [← e]; exact hk))
  · refine own_keep (own_keep hX.rd hon (fun k hk hr => hd k hk hr)) osc (fun k hk e => own_ne hX.rd hX.head (by decide) (by rw [← e]; exact hk))
  · intro k hk
    cases a' with
    | none => simp [Value.ownBlock] at hk
    | some x =>
      have hk' : x.block = k := by simpa [Value.ownBlock] using hk
      rcases hsn x rfl with ⟨y, hy, e⟩ | e
      · have := h.fi y.block (by rw [hi, hy]; rfl); omega
      · have := hX.only.size; omega
  · refine (hX.only.then hon (fun k hk hlt => ?_)).then osc (fun k hk hlt => by have := h.fo; omega)
    have := h.fi k (hrow k hk).symm
    omega
/-- Its due ticks' row has grown, and is stored. -/
theorem OutAt.setDue {a a' : Option Addr} {len c len' c' : Nat} {D' : List Tm} (h : OutAt w0 w O n i d I D) (oX : Only Nil w X) (hi : d = .slice a len c) (ho : w5.ownsRow 0 3 1 (.slice a' len' c') len' (dues D')) (hon : Only (RowOf a) X w5) (hsn : SameOrNew X a a') :
    (w5.heap[O]? = some (.cells #[.int .i64 n, i, d] 29 (0, 0))) ∧ OutAt w0 (w5.setCell ⟨O, 2, none⟩ (.slice a' len' c')) O n i (.slice a' len' c') I D' := by
  have hX := h.nil oX
  have hl : D'.length = len' := by have := ho.1; simp [dues] at this; exact this
  have hrow : ∀ q, RowOf a q → some q = d.ownBlock := by rintro q ⟨x, rfl, rfl⟩; rw [hi]; rfl
  have hO : ¬ RowOf a O := fun hr => own_ne hX.rd hX.head (by decide) (hrow O hr)
  have hhead := (hon.block O hX.lt hO).trans hX.head
  have hd : ∀ q, some q = i.ownBlock → ¬ RowOf a q := by
    intro q hq hr
    rcases hX.ri.2 with ⟨e, _⟩ | ⟨g, cap, cur, e, _, hg, _⟩
    · rw [e] at hq; simp [Value.ownBlock] at hq
    · have : q = g := by rw [e] at hq; simpa [Value.ownBlock] using hq
      subst this
      exact own_ne hX.rd hg (by decide) (hrow q hr)
  have osc : Only (fun k => k = O) w5 (w5.setCell ⟨O, 2, none⟩ (.slice a' len' c')) := (Only.refl (fun k => k = O) w5).setCell (p := ⟨O, 2, none⟩) rfl _
  refine ⟨hhead, ⟨by rw [heap_setCell_self _ hhead]; rfl, ?_, ?_, h.fo, h.fi, ?_, ?_⟩⟩
  · refine own_keep (own_keep hX.ri hon (fun k hk hr => hd k hk hr)) osc (fun k hk e => own_ne hX.ri hX.head (by decide) (by rw [← e]; exact hk))
  · rw [hl]
    exact own_keep ho osc (fun k hk e => own_ne ho hhead (by decide) (by rw [← e]; exact hk))
  · intro k hk
    cases a' with
    | none => simp [Value.ownBlock] at hk
    | some x =>
      have hk' : x.block = k := by simpa [Value.ownBlock] using hk
      rcases hsn x rfl with ⟨y, hy, e⟩ | e
      · have := h.fd y.block (by rw [hi, hy]; rfl); omega
      · have := hX.only.size; omega
  · refine (hX.only.then hon (fun k hk hlt => ?_)).then osc (fun k hk hlt => by have := h.fo; omega)
    have := h.fd k (hrow k hk).symm
    omega
theorem OutAt.rw {S : Nat → Prop} {L : List Tm} (h : OutAt w0 w O n i d L L) (hS : ∀ k, S k → k < w0.heap.size) : Rw w S i d L :=
  ⟨h.ri, h.rd, fun k hk hs => by have := h.fi k hk; have := hS k hs; omega, fun k hk hs => by have := h.fd k hk; have := hS k hs; omega⟩
end

/-- Two results: an aggregate in a block of its own, and a plain one. -/
theorem results_at {P : Program} {fn : Func} {p u : Tmp} {ty te : TypeId} (h : fn.results = #[.cell p ty, .tmp u]) (tmps : Array Value) (w : World) (b : Nat) (cs : List Value)
    (hag : ∀ w, (isAgg ty).run P w = .ok true w) (hsz : ∀ w, (Go.sizeOf ty).run P w = .ok cs.length w) (hp : tmps.getD p undef = .pointer (some ⟨b, 0, none⟩)) (hc : w.heap[b]? = some (.cells cs.toArray te (0, 0))) :
    (results fn tmps).run P w = .ok (.tuple #[.agg cs.toArray, tmps.getD u undef]) w := by
  have hp' : tmps[p]?.getD undef = .pointer (some ⟨b, 0, none⟩) := by simpa using hp
  have hl := run_loadCells_list (P := P) w ⟨b, 0, none⟩ cs (fun j v hj => by
    have e : (⟨b, 0, none⟩ : Addr).add j = ⟨b, j, none⟩ := by unfold Addr.add; split <;> simp_all
    rw [e, cell_of_row w b j _ _ _ hc]; simpa using hj)
  simp only [results, h]
  simp [Sem.run_bind, Result.andThen, asAddr, loadVar, hag, hsz, hp', hl]

theorem lev_cont {now due l : Nat} (h : lev now due < l) (hl : l ≤ 3) : dig now l = dig due l ∧ now / 4096 = due / 4096 := by
  have : l = 1 ∨ l = 2 ∨ l = 3 := by omega
  unfold dig
  rcases this with rfl | rfl | rfl <;> simp only [pw] <;> rcases lev_cases now due with ⟨e, a⟩ | ⟨e, a⟩ | ⟨e, a⟩ | ⟨e, a⟩ <;> omega
theorem lev_stop {now due : Nat} (h : 0 < lev now due) : dig now (lev now due) ≠ dig due (lev now due) ∨ now / 4096 ≠ due / 4096 := by
  unfold dig
  rcases lev_cases now due with ⟨e, a⟩ | ⟨e, a⟩ | ⟨e, a⟩ | ⟨e, a⟩ <;> rw [e] <;> simp only [pw] <;> omega

set_option maxRecDepth 100000 in
set_option maxHeartbeats 1000000 in
theorem rwhere_any (now due : Nat) (hn : now < 1000000000) (hd : due < 1000010000) (w : World) :
    Calls Try.prog 34 #[.int .i64 (now : Int), .int .i64 (due : Int)] w fun e w' => e = .returned (.tuple #[.int .i64 (lev now due : Nat), .int .i64 (dig due (lev now due) : Nat)]) ∧ w = w' := by
  have dn := Lib.hid (fun l (hl : l ≤ 3) w => rdigit_any now l hl (by omega) w)
  have dd := Lib.hid (fun l (hl : l ≤ 3) w => rdigit_any due l hl (by omega) w)
  have hc := Lib.hid (fun l h hl => lev_cont (now := now) (due := due) (l := l) h hl)
  have hs := Lib.hid (lev_stop (now := now) (due := due))
  have h3 := lev_le now due
  obtain ⟨nq, hnq⟩ : ∃ nq, nq = now / 4096 := ⟨_, rfl⟩
  obtain ⟨dq, hdq⟩ : ∃ dq, dq = due / 4096 := ⟨_, rfl⟩
  have e5 : (now : Int) / 4096 = (nq : Int) := by omega
  have e6 : (due : Int) / 4096 = (dq : Int) := by omega
  have hnn : (nq : Int) < 1000000 := by omega
  have hdd : (dq : Int) < 1000000 := by omega
  rw [← hnq, ← hdq] at hc hs
  generalize hv : lev now due = v at *
  clear hn hd hv hnq hdq
  go_enter Try.func34, Try.ntmps34
  go_wp2
  go_loop [6] (fun s6 => ∃ (l : Nat), v ≤ l ∧ l ≤ 3 ∧ s6 = .int .i64 (l : Int)) (fun s6 => (intOf s6).toNat)
  case atStart => exact ⟨3, h3, by omega, rfl⟩
  case round =>
    obtain ⟨l, hvl, hl3, rfl⟩ := hrel
    have dn' := Lib.hid (dn.out l hl3)
    have dd' := Lib.hid (dd.out l hl3)
    by_cases hlt : v < l
    · obtain ⟨e1, e2⟩ := hc.out l hlt hl3
      have hb := Lib.hid (show v ≤ l - 1 ∧ l - 1 ≤ 3 ∧ 1 ≤ l by omega)
      have hl0 : 0 < l := by omega
      subst e2
      have hl3' : (l : Int) ≤ 3 := by omega
      rw [e1] at dn'
      generalize dig due l = g at *
      clear e1 hvl hl3 hlt h3 hdd
      go_wp2_with (first
        | (go_at_call 41; (with_reducible refine (dn'.out _).mono ?_); rintro e w' ⟨rfl, rfl⟩)
        | (go_at_call 41; (with_reducible refine (dd'.out _).mono ?_); rintro e w' ⟨rfl, rfl⟩))
      go_round
      case rel => exact ⟨l - 1, hb.out.1, hb.out.2.1, by have := hb.out; rw [show ((l - 1 : Nat) : Int) = (l : Int) - 1 by omega]⟩
      case measure => have := hb.out; simp [intOf]; omega
    · obtain rfl : v = l := by omega
      by_cases h0 : v = 0
      · subst h0
        generalize hg0 : dig due 0 = g at *
        have hg := Lib.hid hg0
        clear hg0
        have dd0 := Lib.hid (fun w => show Calls Try.prog 41 #[.int .i64 (due : Int), .int .i64 0] w fun e w' => e = .returned (.int .i64 (g : Int)) ∧ w = w' from dd'.out w)
        go_wp2_with (go_at_call 41; (with_reducible refine (dd0.out _).mono ?_); rintro e w' ⟨rfl, rfl⟩)
        go_ret2
        exact ⟨by rw [hg.out]; rfl, rfl⟩
      · have hst := hs.out (by omega)
        have hl0 : 0 < v := by omega
        by_cases hdg : dig now v = dig due v
        · have e3 : ((nq : Int) == (dq : Int)) = false := by rw [beq_eq_false_iff_ne]; rcases hst with h | h <;> omega
          rw [hdg] at dn'
          generalize hg0 : dig due v = g at *
          have hg := Lib.hid hg0
          clear hg0
          clear hst hdg h0 hvl hl3 hlt h3
          go_wp2_with (first
            | (go_at_call 41; (with_reducible refine (dn'.out _).mono ?_); rintro e w' ⟨rfl, rfl⟩)
            | (go_at_call 41; (with_reducible refine (dd'.out _).mono ?_); rintro e w' ⟨rfl, rfl⟩))
          go_ret2
          exact ⟨by rw [hg.out]; rfl, rfl⟩
        · have e3 : ((dig now v : Int) == (dig due v : Int)) = false := by rw [beq_eq_false_iff_ne]; omega
          generalize hg0 : dig due v = g at *
          have hg := Lib.hid hg0
          clear hg0
          generalize dig now v = g2 at *
          clear hst hdg h0 hvl hl3 hlt h3
          go_wp2_with (first
            | (go_at_call 41; (with_reducible refine (dn'.out _).mono ?_); rintro e w' ⟨rfl, rfl⟩)
            | (go_at_call 41; (with_reducible refine (dd'.out _).mono ?_); rintro e w' ⟨rfl, rfl⟩))
          go_ret2
          exact ⟨by rw [hg.out]; rfl, rfl⟩

set_option maxHeartbeats 1000000 in
/-- Same, of two rows of one list's ids. -/
theorem same_any {w : World} {b1 b2 : Nat} {v1 v2 : Value} {M : List Tm} (h1 : w.ownsRow b1 30 1 v1 M.length (ids M)) (h2 : w.ownsRow b2 30 1 v2 M.length (ids M)) (hM : M.length ≤ 64) :
    Calls Try.prog 17 #[v1, v2] w fun e w' => e = .returned (.bool true) ∧ Only Nil w w' := by
  obtain ⟨a1, c1, rfl⟩ := own_slice_n h1
  obtain ⟨a2, c2, rfl⟩ := own_slice_n h2
  have h1' := Lib.hid (fun (w' : World) (o : Only Nil w w') => own_keep h1 o (fun _ _ h => h))
  have h2' := Lib.hid (fun (w' : World) (o : Only Nil w w') => own_keep h2 o (fun _ _ h => h))
  clear h1 h2
  generalize M.length = n at *
  have hn : (n : Int) ≤ 64 := by omega
  have o0 := Lib.hid (Only.refl Nil w)
  go_enter Try.func17, Try.ntmps17
  go_wp2
  go_loopw [5] (fun s5 wr => ∃ (q : Nat), q ≤ n ∧ s5 = .int .i64 (q : Int) ∧ Hid (Only Nil w wr)) (fun s5 _ => n - (intOf s5).toNat)
  case atStart => exact ⟨0, by omega, rfl, o0⟩
  case round =>
    obtain ⟨q, hq, rfl, ho⟩ := hrel
    by_cases hqn : q < n
    · obtain ⟨g1, rfl, l1, d1⟩ := map_in (h1'.out _ ho.out) q hqn
      obtain ⟨g2, rfl, l2, d2⟩ := map_in (h2'.out _ ho.out) q hqn
      have hqi : (q : Int) < (n : Int) := by omega
      have hqs := Lib.hid hqn
      generalize (M.getD q default).id = y at *
      clear hq hqn
      go_wp2
      go_quiet (fail)
      go_wp2
      go_roundw
      case rel => exact ⟨q + 1, hqs.out, by go_num, Lib.hid (ho.out.drewN _)⟩
      case measure => have := hqs.out; simp [intOf]; omega
    · obtain rfl : q = n := by omega
      have hk0 : ¬ (q : Int) < (q : Int) := by omega
      go_wp2
      go_ret
      exact ⟨rfl, ho.out⟩
end Go.Proofs.Ytpmgmdlfnlmieaa.Wh
