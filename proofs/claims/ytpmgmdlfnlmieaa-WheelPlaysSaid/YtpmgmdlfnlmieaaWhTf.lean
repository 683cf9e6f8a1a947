/- wheel, the document's: Tick. -/
import Derived.Test.YtpmgmdlfnlmieaaWhTe
namespace Go.Proofs.Ytpmgmdlfnlmieaa.Wh
open Go.RowKit Go.Proofs.Ytpmgmdlfnlmieaa

/-- Rows of unlike elements are two. -/
theorem own_apart {w : World} {b1 b2 : Nat} {e f : TypeId} {s r n m : Nat} {u v : Value} {xs ys : List Value} (h : w.ownsRow b1 e s u n xs) (k : w.ownsRow b2 f r v m ys) (ht : e ≠ f) (q : Nat) (hu : u.ownBlock = some q) : v.ownBlock ≠ some q := by
  intro hv
  rcases k.2 with ⟨rfl, _⟩ | ⟨g, cap, cur, rfl, _, hg, _⟩
  · simp [Value.ownBlock] at hv
  · have : g = q := by simpa [Value.ownBlock] using hv
    subst this
    exact own_ne h hg ht hu.symm

/-- A Wheel that is being made, and who is due, as a row v. -/
structure Tk (w0 w : World) (K : Nat → Array Value → Prop) (O : Nat) (n : Int) (i d : Value) (I D : List Tm) (v : Value) (M : List Tm) : Prop where
  wh : Mk w0 w K O n i d I D
  rv : w.ownsRow 0 30 1 v M.length (ids M)
  fv : ∀ q, v.ownBlock = some q → w0.heap.size ≤ q
  ap : ∀ q, v.ownBlock = some q → i.ownBlock ≠ some q
section
variable {w0 w X : World} {K : Nat → Array Value → Prop} {O : Nat} {n : Int} {i d v : Value} {I D M : List Tm}
theorem Tk.nil (h : Tk w0 w K O n i d I D v M) (o : Only Nil w X) : Tk w0 X K O n i d I D v M := ⟨h.wh.nil o, own_keep h.rv o (fun _ _ h => h), h.fv, h.ap⟩

/-- An id more. -/
theorem Tk.pushId (h : Tk w0 w K O n i d I D v M) (few : I.length ≤ 60000) (oX : Only Nil w X) (q : Nat) (t : Tm) (hq : X.heap[q]? = some (.cells #[.int .u64 (t.id : Int)] 30 (0, 0))) :
    ∃ a' c' w', (Builtin.append_ #[26, 26] 26 #[i, .slice (some ⟨q, 0, none⟩) 1 1]).run Try.prog X = .ok (.slice a' (I.length + 1) c') w' ∧ Hid (w'.heap[O]? = some (.cells #[.int .i64 n, i, d] 29 (0, 0)) ∧ Tk w0 (w'.setCell ⟨O, 1, none⟩ (.slice a' (I.length + 1) c')) K O n (.slice a' (I.length + 1) c') d (I ++ [t]) D v M) := by
  have hX := h.nil oX
  obtain ⟨a, c, hi⟩ := own_slice_n hX.wh.out.ri
  have hr := hX.wh.out.ri
  rw [hi] at hr
  have hiv : ∀ q', RowOf a q' → i.ownBlock = some q' := by rintro q' ⟨x, hx, rfl⟩; rw [hi, hx]; rfl
  obtain ⟨a', c', w', h1, h2, h3, h4⟩ := run_append_end (P := Try.prog) (t := 26) (ty := 26) Try.underlying26 Try.infoU64 rfl hr ⟨q, 0, none⟩ [.int .u64 (t.id : Int)] rfl (by intro u hu; simp at hu; subst hu; rfl) (fun j u hj => by
    rw [add_lit0, Nat.zero_add, cell_of_row X q _ _ _ _ hq]
    simpa using hj) (by omega) (by decide)
  have hs := h.wh.step1 (I' := I ++ [t]) oX hi (by rw [ids_append]; exact h2) h3 h4
  refine ⟨a', c', w', by rw [hi]; exact h1, Lib.hid ⟨hs.1.2, hs.2, ?_, h.fv, ?_⟩⟩
  · have osc : Only (fun k => k = O) w' (w'.setCell ⟨O, 1, none⟩ (.slice a' (I.length + 1) c')) := (Only.refl (fun k => k = O) w').setCell (p := ⟨O, 1, none⟩) rfl _
    have hv5 := own_keep hX.rv h3 (fun k hk hr => h.ap k hk.symm (hiv k hr))
    exact own_keep hv5 osc (fun k hk e => own_ne hv5 hs.1.2 (by decide) (by rw [← e]; exact hk))
  · intro k hk hk2
    cases a' with
    | none => simp [Value.ownBlock] at hk2
    | some y =>
      have hy : y.block = k := by simpa [Value.ownBlock] using hk2
      rcases h4 y rfl with ⟨z, hz, e⟩ | e
      · exact h.ap k hk (hiv k ⟨z, hz, by omega⟩)
      · have := (hX.rv.lt k hk).2; omega
/-- A due tick more. -/
theorem Tk.pushDue (h : Tk w0 w K O n i d I D v M) (few : D.length ≤ 60000) (oX : Only Nil w X) (q : Nat) (t : Tm) (hq : X.heap[q]? = some (.cells #[.int .i64 (t.due : Int)] 3 (0, 0))) :
    ∃ a' c' w', (Builtin.append_ #[27, 27] 27 #[d, .slice (some ⟨q, 0, none⟩) 1 1]).run Try.prog X = .ok (.slice a' (D.length + 1) c') w' ∧ Hid (w'.heap[O]? = some (.cells #[.int .i64 n, i, d] 29 (0, 0)) ∧ Tk w0 (w'.setCell ⟨O, 2, none⟩ (.slice a' (D.length + 1) c')) K O n i (.slice a' (D.length + 1) c') I (D ++ [t]) v M) := by
  have hX := h.nil oX
  obtain ⟨a, c, hi⟩ := own_slice_n hX.wh.out.rd
  have hr := hX.wh.out.rd
  rw [hi] at hr
  have hiv : ∀ q', RowOf a q' → d.ownBlock = some q' := by rintro q' ⟨x, hx, rfl⟩; rw [hi, hx]; rfl
  obtain ⟨a', c', w', h1, h2, h3, h4⟩ := run_append_end (P := Try.prog) (t := 27) (ty := 27) Try.underlying27 Try.infoInt rfl hr ⟨q, 0, none⟩ [.int .i64 (t.due : Int)] rfl (by intro u hu; simp at hu; subst hu; rfl) (fun j u hj => by
    rw [add_lit0, Nat.zero_add, cell_of_row X q _ _ _ _ hq]
    simpa using hj) (by omega) (by decide)
  have hs := h.wh.step2 (D' := D ++ [t]) oX hi (by rw [dues_append]; exact h2) h3 h4
  refine ⟨a', c', w', by rw [hi]; exact h1, Lib.hid ⟨hs.1.2, hs.2, ?_, h.fv, h.ap⟩⟩
  have osc : Only (fun k => k = O) w' (w'.setCell ⟨O, 2, none⟩ (.slice a' (D.length + 1) c')) := (Only.refl (fun k => k = O) w').setCell (p := ⟨O, 2, none⟩) rfl _
  have hv5 := own_keep hX.rv h3 (fun k hk hr => own_apart hX.rv hX.wh.out.rd (by decide) k hk.symm (hiv k hr))
  exact own_keep hv5 osc (fun k hk e => own_ne hv5 hs.1.2 (by decide) (by rw [← e]; exact hk))
/-- One more is due. -/
theorem Tk.tell (h : Tk w0 w K O n i d I D v M) (few : M.length ≤ 60000) (oX : Only Nil w X) (q : Nat) (t : Tm) (hq : X.heap[q]? = some (.cells #[.int .u64 (t.id : Int)] 30 (0, 0))) :
    ∃ a' c' w', (Builtin.append_ #[26, 26] 26 #[v, .slice (some ⟨q, 0, none⟩) 1 1]).run Try.prog X = .ok (.slice a' (M.length + 1) c') w' ∧ Hid (Tk w0 w' K O n i d I D (.slice a' (M.length + 1) c') (M ++ [t])) := by
  have hX := h.nil oX
  obtain ⟨a, c, hi⟩ := own_slice_n hX.rv
  have hr := hX.rv
  rw [hi] at hr
  have hiv : ∀ q', RowOf a q' → v.ownBlock = some q' := by rintro q' ⟨x, hx, rfl⟩; rw [hi, hx]; rfl
  obtain ⟨a', c', w', h1, h2, h3, h4⟩ := run_append_end (P := Try.prog) (t := 26) (ty := 26) Try.underlying26 Try.infoU64 rfl hr ⟨q, 0, none⟩ [.int .u64 (t.id : Int)] rfl (by intro u hu; simp at hu; subst hu; rfl) (fun j u hj => by
    rw [add_lit0, Nat.zero_add, cell_of_row X q _ _ _ _ hq]
    simpa using hj) (by omega) (by decide)
  have hM : (M ++ [t]).length = M.length + 1 := by simp
  refine ⟨a', c', w', by rw [hi]; exact h1, Lib.hid ⟨⟨⟨?_, ?_, ?_, h.wh.out.fo, h.wh.out.fi, h.wh.out.fd, ?_⟩, ?_, h.wh.ne⟩, by rw [ids_append, hM]; exact h2, ?_, ?_⟩⟩
  · exact (h3.block O hX.wh.out.lt (fun hr => own_ne hX.rv hX.wh.out.head (by decide) (hiv O hr).symm)).trans hX.wh.out.head
  · exact own_keep hX.wh.out.ri h3 (fun k hk hr => h.ap k (hiv k hr) hk.symm)
  · exact own_keep hX.wh.out.rd h3 (fun k hk hr => own_apart hX.rv hX.wh.out.rd (by decide) k (hiv k hr) hk.symm)
  · exact hX.wh.out.only.then h3 (fun k hk hlt => by have := h.fv k (hiv k hk); omega)
  · intro q' cs hq'
    exact (h3.block q' (lt_of_block (hX.wh.box q' cs hq')) (fun hr => own_ne hX.rv (hX.wh.box q' cs hq') (by decide) (hiv q' hr).symm)).trans (hX.wh.box q' cs hq')
  · intro k hk
    cases a' with
    | none => simp [Value.ownBlock] at hk
    | some y =>
      have hy : y.block = k := by simpa [Value.ownBlock] using hk
      rcases h4 y rfl with ⟨z, hz, e⟩ | e
      · exact h.fv k (hiv k ⟨z, hz, by omega⟩)
      · have := hX.wh.out.only.size; omega
  · intro k hk hk2
    cases a' with
    | none => simp [Value.ownBlock] at hk
    | some y =>
      have hy : y.block = k := by simpa [Value.ownBlock] using hk
      rcases h4 y rfl with ⟨z, hz, e⟩ | e
      · exact h.ap k (hiv k ⟨z, hz, by omega⟩) hk2
      · have := (hX.wh.out.ri.lt k hk2).2; omega
end

theorem filter_next (p : Tm → Bool) (L : List Tm) (q : Nat) (hq : q < L.length) : (L.take (q + 1)).filter p = if p (L.getD q default) = true then (L.take q).filter p ++ [L.getD q default] else (L.take q).filter p := by
  rw [take_next L q hq, List.filter_append]
  by_cases h : p (L.getD q default) = true
  · rw [if_pos h]; simp only [List.filter_cons, h, if_true, List.filter_nil]
  · rw [if_neg h]; simp only [List.filter_cons, h]; simp

set_option maxRecDepth 100000 in
set_option maxHeartbeats 8000000 in
theorem rtick_any {w : World} {S : Nat → Prop} {i d : Value} {L : List Tm} (h : Rw w S i d L) (hS : ∀ k, S k → k < w.heap.size) (few : L.length ≤ 64) (n : Nat) (hn : n + 1 < 1000000000) :
    Calls Try.prog 16 #[.agg #[.int .i64 (n : Int), i, d]] w fun e w' => ∃ i' d' v', e = .returned (.tuple #[.agg #[.int .i64 ((n + 1 : Nat) : Int), i', d'], v']) ∧ Rw w' S i' d' (L.filter fun t => !(t.due == n + 1)) ∧
      (w'.ownsRow 0 30 1 v' (L.filter fun t => t.due == n + 1).length (ids (L.filter fun t => t.due == n + 1)) ∧ ∀ q, v'.ownBlock = some q → w.heap.size ≤ q) ∧ Only Nil w w' := by
  obtain ⟨b1, b2, b3⟩ := two_blocks w #[.int .i64 (n : Int), i, d] #[.int .i64 0, .slice none 0 0, .slice none 0 0] 29 29
  obtain ⟨N, hN⟩ : ∃ N, N = n + 1 := ⟨_, rfl⟩
  have eN : (n : Int) + 1 = (N : Int) := by omega
  have hNb : (N : Int) < 1000000000 := by omega
  have mk := Lib.hid (mk_new (m := (N : Int)) b1 b2 b3)
  have hsz : ((w.alloc (.cells #[.int .i64 (n : Int), i, d] 29)).alloc (.cells #[.int .i64 0, .slice none 0 0, .slice none 0 0] 29)).heap.size = w.heap.size + 1 + 1 := by simp
  rw [hsz] at mk
  rw [← hN]
  have hS' := Lib.hid hS
  have hf1 := Lib.hid (filter_next (fun t => t.due == N) L)
  have hf2 := Lib.hid (filter_next (fun t => !(t.due == N)) L)
  obtain ⟨a, ca, hi⟩ := own_slice_n h.ri
  obtain ⟨b, cb, hd⟩ := own_slice_n h.rd
  have hri := Lib.hid (fun (w' : World) (o : Only Nil w w') => own_keep h.ri o (fun _ _ h => h))
  have hrd := Lib.hid (fun (w' : World) (o : Only Nil w w') => own_keep h.rd o (fun _ _ h => h))
  rw [hi, hd] at mk
  rw [hi] at hri
  rw [hd] at hrd
  have hcl := Lib.hid (fun q p => show ((L.take q).filter p).length ≤ 60000 from by
    have h1 := List.length_filter_le p (L.take q)
    have h3 := List.length_take_le' q L
    omega)
  rw [hi, hd]
  clear h hS b1 b2 b3 hsz hi hd hn hN
  generalize hlen : L.length = len at *
  have hlen' := Lib.hid hlen
  clear hlen
  have hl64 : (len : Int) ≤ 64 := by omega
  go_enter Try.func16, Try.ntmps16
  go_wp2
  (try simp only [eN])
  clear eN
  go_loopw [5, 6] (fun s5 s6 wr => ∃ (q : Nat) (i' d' vd : Value), q ≤ len ∧ s6 = .int .i64 (q : Int) ∧ vd = s5 ∧ Hid (Tk w wr (KK w.heap.size (w.heap.size + 1) n (.slice a len ca) (.slice b len cb)) (w.heap.size + 1 + 1) N i' d' ((L.take q).filter fun t => !(t.due == N)) ((L.take q).filter fun t => !(t.due == N)) vd ((L.take q).filter fun t => t.due == N)))
    (fun _ s6 _ => len - (intOf s6).toNat)
  case atStart => exact ⟨0, _, _, _, by omega, rfl, rfl, Lib.hid ⟨by simpa using mk.out, by simpa [ids] using World.ownsRow_nil _ _ _ _, fun q h => by simp [Value.ownBlock] at h, fun q h => by simp [Value.ownBlock] at h⟩⟩
  case round =>
    obtain ⟨q, i', d', vd, hq, rfl, rfl, hm⟩ := hrel
    obtain ⟨u0, u1, u2, _, _, _, u3⟩ := tri_of (hm.out.wh.box _ _ (.inl ⟨rfl, rfl⟩))
    obtain ⟨v0, v1, v2, v3, v4, v5, v6⟩ := tri_of hm.out.wh.out.head
    by_cases hql : q < len
    · have c1' := Lib.hid (show ∀ (w' : World), Only Nil w w' → ∃ g1, (a = some ⟨g1, 0, none⟩ ∧ g1 < w'.heap.size ∧ w'.cell? ⟨g1, q, none⟩ = some (.int .u64 ((L.getD q default).id : Int))) from fun w' o => map_in (hri.out _ o) q hql)
      have c2' := Lib.hid (show ∀ (w' : World), Only Nil w w' → ∃ g2, (b = some ⟨g2, 0, none⟩ ∧ g2 < w'.heap.size ∧ w'.cell? ⟨g2, q, none⟩ = some (.int .i64 ((L.getD q default).due : Int))) from fun w' o => map_in (hrd.out _ o) q hql)
      obtain ⟨g1, hb1, l1, c1⟩ := c1'.out _ hm.out.wh.out.only
      obtain ⟨g2, hb2, l2, c2⟩ := c2'.out _ hm.out.wh.out.only
      subst hb1 hb2
      have hqi : (q : Int) < (len : Int) := by omega
      have hqs := Lib.hid hql
      have E1 := Lib.hid (hf1.out q hql)
      have E2 := Lib.hid (hf2.out q hql)
      have hl1 := Lib.hid (hcl.out q (fun t => t.due == N))
      have hl2 := Lib.hid (hcl.out q (fun t => !(t.due == N)))
      generalize ht : L.getD q default = t at *
      generalize hI : ((L.take q).filter fun t => !(t.due == N)) = I at *
      generalize hM : ((L.take q).filter fun t => t.due == N) = M at *
      clear ht hI hM hq hql
      generalize hx0 : t.id = x0 at *
      generalize hx1 : t.due = x1 at *
      by_cases hz : x1 = N
      · have e1' : Hid (((L.take (q + 1)).filter fun t => t.due == N) = M ++ [t]) := Lib.hid (by rw [E1.out, if_pos (by simp [hz])])
        have e2' : Hid (((L.take (q + 1)).filter fun t => !(t.due == N)) = I) := Lib.hid (by rw [E2.out, if_neg (by simp [hz])])
        have hzi : ((x1 : Int) == (N : Int)) = true := by rw [beq_iff_eq]; omega
        clear hz
        go_wp2
        go_quiet (fail)
        obtain ⟨wq, hwq⟩ : ∃ wq, wq = wr.drewN nq := ⟨_, rfl⟩
        have hq2 := Lib.hid (show Tk w wq (KK w.heap.size (w.heap.size + 1) n (.slice (some ⟨g1, 0, none⟩) len ca) (.slice (some ⟨g2, 0, none⟩) len cb)) (w.heap.size + 1 + 1) N i' d' I I vd M from by rw [hwq]; exact hm.out.nil ((Only.refl Nil wr).drewN nq))
        rw [← hwq]
        clear hwq u0 u1 u2 u3 v0 v1 v2 v3 v4 v5 v6 l1 c1 l2 c2
        obtain ⟨u0, u1, u2, _, _, _, u3⟩ := tri_of (hq2.out.wh.box _ _ (.inl ⟨rfl, rfl⟩))
        obtain ⟨g1', hb1, l1, c1⟩ := c1'.out _ hq2.out.wh.out.only
        simp only [Option.some.injEq, Addr.mk.injEq, and_true] at hb1
        subst hb1
        obtain ⟨a5, c5, w5, r5, H5⟩ := hq2.out.tell hl1.out (X := wq.alloc (.cells #[.int .u64 (x0 : Int)] 30)) ((Only.refl Nil wq).alloc _) wq.heap.size t (by rw [hx0]; exact heap_new _ _)
        have r5' := Lib.hid r5
        clear r5
        go_wp2_with (at_builtin; refine Lib.wpList_append_run _ rfl (.tmp 26) (.tmp 32) 26 26 rfl _ _ rfl rfl _ _ r5'.out ?_)
        go_roundw
        case rel => exact ⟨q + 1, i', d', _, hqs.out, by go_num, rfl, Lib.hid (by rw [e1'.out, e2'.out]; exact H5.out)⟩
        case measure => have := hqs.out; simp [intOf]; omega
      · have e1' : Hid (((L.take (q + 1)).filter fun t => t.due == N) = M) := Lib.hid (by rw [E1.out, if_neg (by simp [hz])])
        have e2' : Hid (((L.take (q + 1)).filter fun t => !(t.due == N)) = I ++ [t]) := Lib.hid (by rw [E2.out, if_pos (by simp [hz])])
        have hzi : ((x1 : Int) == (N : Int)) = false := by rw [beq_eq_false_iff_ne]; omega
        clear hz
        go_wp2
        go_quiet (fail)
        obtain ⟨wq, hwq⟩ : ∃ wq, wq = wr.drewN nq := ⟨_, rfl⟩
        have hq2 := Lib.hid (show Tk w wq (KK w.heap.size (w.heap.size + 1) n (.slice (some ⟨g1, 0, none⟩) len ca) (.slice (some ⟨g2, 0, none⟩) len cb)) (w.heap.size + 1 + 1) N i' d' I I vd M from by rw [hwq]; exact hm.out.nil ((Only.refl Nil wr).drewN nq))
        rw [← hwq]
        clear hwq u0 u1 u2 u3 v0 v1 v2 v3 v4 v5 v6 l1 c1 l2 c2
        obtain ⟨u0, u1, u2, _, _, _, u3⟩ := tri_of (hq2.out.wh.box _ _ (.inl ⟨rfl, rfl⟩))
        obtain ⟨v0, v1, v2, v3, v4, v5, v6⟩ := tri_of hq2.out.wh.out.head
        obtain ⟨g1', hb1, l1, c1⟩ := c1'.out _ hq2.out.wh.out.only
        simp only [Option.some.injEq, Addr.mk.injEq, and_true] at hb1
        subst hb1
        obtain ⟨a5, c5, w5, r5, H5⟩ := hq2.out.pushId hl2.out (X := (wq.alloc (.cells #[.int .u64 (x0 : Int)] 30)).drew) (((Only.refl Nil wq).alloc _).drew) wq.heap.size t (by rw [hx0]; exact heap_new _ _)
        have r5' := Lib.hid r5
        obtain ⟨k5b, M5⟩ := H5.out
        obtain ⟨s0, s1, s2, s3, s4, s5', s6⟩ := tri_of k5b
        have M5' := Lib.hid M5
        clear r5 H5 k5b M5
        go_wp2
        go_region_law (refine step_append_run rfl (.tmp 35) (.tmp 41) 26 rfl _ _ rfl rfl _ _ r5'.out ?_)
        all_goals
          obtain ⟨w7, hw7⟩ : ∃ w7, w7 = w5.setCell ⟨w.heap.size + 1 + 1, 1, none⟩ (.slice a5 (I.length + 1) c5) := ⟨_, rfl⟩
          rw [← hw7] at M5' ⊢
          clear hw7 u0 u1 u2 u3 v0 v1 v2 v3 v4 v5 v6 c1 l1 s0 s1 s2 s3 s4 s5' s6
          obtain ⟨u0, u1, u2, _, _, _, u3⟩ := tri_of (M5'.out.wh.box _ _ (.inl ⟨rfl, rfl⟩))
          obtain ⟨v0, v1, v2, v3, v4, v5, v6⟩ := tri_of M5'.out.wh.out.head
          obtain ⟨g2', hb2, l2, c2⟩ := c2'.out _ M5'.out.wh.out.only
          simp only [Option.some.injEq, Addr.mk.injEq, and_true] at hb2
          subst hb2
          obtain ⟨a8, c8, w8, r8, H8⟩ := M5'.out.pushDue hl2.out (X := (w7.alloc (.cells #[.int .i64 (x1 : Int)] 3)).drew) (((Only.refl Nil w7).alloc _).drew) w7.heap.size t (by rw [hx1]; exact heap_new _ _)
          have r8' := Lib.hid r8
          obtain ⟨k8b, M8⟩ := H8.out
          obtain ⟨s0, s1, s2, s3, s4, s5', s6⟩ := tri_of k8b
          have M8' := Lib.hid M8
          clear r8 H8 k8b M8
          go_wp2
          go_region_law (refine step_append_run rfl (.tmp 45) (.tmp 51) 27 rfl _ _ rfl rfl _ _ r8'.out ?_)
          all_goals
            go_wp2
            go_roundw
            case rel => exact ⟨q + 1, _, _, _, hqs.out, by go_num, rfl, Lib.hid (by rw [e1'.out, e2'.out]; exact M8'.out)⟩
            case measure => have := hqs.out; simp [intOf]; omega
    · obtain rfl : q = len := by omega
      have hk0 : ¬ (q : Int) < (q : Int) := by omega
      have hz := hm.out.wh.box _ _ (.inr ⟨rfl, rfl⟩)
      obtain ⟨z0, z1, z2, z3, z4, z5, z6⟩ := tri_of hz
      have hz' := Lib.hid hz
      have eT : L.take q = L := List.take_of_length_le (by rw [hlen'.out]; exact Nat.le_refl _)
      have hm2 := hm.out
      rw [eT] at hm2
      have hm3 := Lib.hid hm2
      obtain ⟨a9, c9, hi9⟩ := own_slice_n hm2.wh.out.ri
      obtain ⟨b9, f9, hd9⟩ := own_slice_n hm2.wh.out.rd
      obtain ⟨h9, k9, hv9⟩ := own_slice_n hm2.rv
      subst hi9 hd9 hv9
      clear hz eT hm hq hql hm2
      generalize hK : (L.filter fun t => !(t.due == N)) = Kp at *
      generalize hM : (L.filter fun t => t.due == N) = M at *
      have hK' := Lib.hid hK
      have hM' := Lib.hid hM
      clear hK hM
      have o3 := Lib.hid (set3_only (Only.refl (fun k => k = w.heap.size + 1) wr) (.int .i64 (N : Int)) (.slice a9 Kp.length c9) (.slice b9 Kp.length f9))
      have hrv := Lib.hid (own_keep hm3.out.rv o3.out (fun k hk e => own_ne hm3.out.rv hz'.out (by decide) (by rw [← e]; exact hk)))
      generalize hkl : Kp.length = kl at *
      generalize hml : M.length = ml at *
      go_wp2
      refine bodyPost_ret (results_at rfl _ _ (w.heap.size + 1) [.int .i64 (N : Int), .slice a9 kl c9, .slice b9 kl f9] Try.isAgg29 Try.sizeOf29 rfl (set3_heap hz'.out (.int .i64 (N : Int)) (.slice a9 kl c9) (.slice b9 kl f9))) rfl ?_
      rw [hK'.out, hM'.out, hml]
      exact ⟨_, _, _, rfl, (hm3.out.wh.out.rw hS'.out).keepWheel hz'.out o3.out, ⟨hrv.out, hm3.out.fv⟩, hm3.out.wh.out.only.then o3.out (fun k hk hlt => by omega)⟩
end Go.Proofs.Ytpmgmdlfnlmieaa.Wh
