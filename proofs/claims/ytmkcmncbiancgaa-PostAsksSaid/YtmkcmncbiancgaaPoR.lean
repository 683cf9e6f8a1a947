/- Rows of pointers to operations, a law's own; several operations side by side. -/
import Derived.Test.YtmkcmncbiancgaaPoP
import Derived.Test.YtmkcmncbiancgaaRowC
import Derived.Lib.AppendZerosOnto
namespace Go.Proofs.Ytmkcmncbiancgaa.Po
open Go.RowKit Go.Proofs.Ytmkcmncbiancgaa

theorem own_slice_n {w : World} {b : Nat} {e : TypeId} {s : Nat} {v : Value} {n : Nat} {xs : List Value} (h : w.ownsRow b e s v n xs) : ∃ a c, v = .slice a n c := by
  rcases h.2 with ⟨rfl, rfl⟩ | ⟨g, c, _, h, _⟩
  · exact ⟨none, 0, rfl⟩
  · exact ⟨_, c, h⟩
/-- Only the row of a has turned. -/
def RowOf (a : Option Addr) (q : Nat) : Prop := ∃ x, a = some x ∧ q = x.block
/-- The row at a' is a's own, or a new one. -/
def SameOrNew (w : World) (a a' : Option Addr) : Prop := ∀ x, a' = some x → (∃ y, a = some y ∧ x.block = y.block) ∨ w.heap.size ≤ x.block

/-- append, where there is no room: a new row. -/
theorem run_append_new {P : Program} (w : World) (t ty e : TypeId) (i : TypeInfo) (z : Value) (size bytes : Nat) (ht : P.underlying t = some (.slice e)) (hi : P.info? e = some i) (hz : i.zero = some z)
    (hsize : i.size = size) (hby : i.bytes = bytes) (hzs : z.cells.size = size) (a : Option Addr) (n : Nat) (xs : List Value) (hown : w.ownsRow 0 e size (.slice a n n) n xs)
    (ad : Addr) (m c : Nat) (hm : 0 < m) (news : List Value) (hl : news.length = m * size) (hnews : ∀ j u, news[j]? = some u → w.cell? (ad.add j) = some u)
    (h63 : n + m ≤ maxLen) (hbytes : (n + m) * bytes ≤ 140737488355328) :
    ∃ c' w', (Builtin.append_ #[t, t] ty #[.slice a n n, .slice (some ad) m c]).run P w = .ok (.slice (some ⟨w.heap.size, 0, none⟩) (n + m) c') w' ∧
      w'.ownsRow 0 e size (.slice (some ⟨w.heap.size, 0, none⟩) (n + m) c') (n + m) (xs ++ news) ∧ Only Nil w w' := by
  subst hsize
  subst hby
  have hlen : (xs ++ news).length = (n + m) * i.size := by rw [List.length_append, hown.1, hl, Nat.add_mul]
  have h63' : n + m ≤ 9223372036854775807 := by simp only [maxLen] at h63; omega
  have grown : (w.drew.alloc (.cells (xs.toArray ++ news.toArray ++ Builtin.zeroCells z.cells (grownCap w (n + m) n e - (n + m))) e)).ownsRow 0 e i.size
        (.slice (some ⟨w.heap.size, 0, none⟩) (n + m) (grownCap w (n + m) n e)) (n + m) (xs ++ news) ∧
      Only Nil w (w.drew.alloc (.cells (xs.toArray ++ news.toArray ++ Builtin.zeroCells z.cells (grownCap w (n + m) n e - (n + m))) e)) := by
    have hge := grownCap_ge w (n + m) n e
    have hcm : grownCap w (n + m) n e ≤ maxLen := grownCap_le_maxLen w (n + m) n e h63
    refine ⟨⟨hlen, .inr ⟨w.heap.size, _, _, rfl, Nat.zero_le _, heap_alloc_new w.drew _, hge, hcm, ?_, ?_⟩⟩, (Only.refl Nil w).drew.alloc _⟩
    · simp only [Array.size_append, List.size_toArray, size_zeroCells, hzs, hown.1, hl, ← Nat.add_mul]
      congr 1
      omega
    · simp only [Array.toList_append, List.append_assoc]
      rw [← List.append_assoc, ← hlen]
      exact List.take_left
  rcases hown.2 with ⟨e1, e2⟩ | ⟨g, cap, cur, e1, hbg, hg, hnc, hcm, hcs, htake⟩
  · simp only [Value.slice.injEq] at e1
    obtain ⟨rfl, rfl, _⟩ := e1
    have hx : xs = [] := List.eq_nil_of_length_eq_zero (by simpa using hown.1)
    subst hx
    have hr := run_append_nil (P := P) w t ty e i z ht hi hz ad m c news hl hnews (by omega) (by omega) (by have hb := hbytes; simp only [Nat.zero_add] at hb; omega)
    simp only [Nat.zero_add, List.nil_append, Array.empty_append] at grown ⊢
    exact ⟨_, _, hr, grown.1, grown.2⟩
  · simp only [Value.slice.injEq] at e1
    obtain ⟨rfl, _, rfl⟩ := e1
    have holds : ∀ j u, xs[j]? = some u → w.cell? ((⟨g, 0, none⟩ : Addr).add j) = some u := hown.cells (g := g) rfl
    have hr := run_append_grow (P := P) w t ty e i z ht hi hz ⟨g, 0, none⟩ n n xs hown.1 holds ad m c news hl hnews (by omega) (by omega) (growslice_fits (by omega) hbytes)
    exact ⟨_, _, hr, grown.1, grown.2⟩

/-- One element more at the end, with room or without. -/
theorem run_append_end {P : Program} {w : World} {t ty e : TypeId} {z : Value} {size bytes : Nat} (ht : P.underlying t = some (.slice e)) (hi : (P.info? e).map (fun i => (i.zero, i.size, i.bytes)) = some (some z, size, bytes)) (hzs : z.cells.size = size)
    {a : Option Addr} {len cap : Nat} {xs : List Value} (hown : w.ownsRow 0 e size (.slice a len cap) len xs) (ad : Addr) (news : List Value) (hl : news.length = size) (hone : ∀ u ∈ news, u.oneCell' = true)
    (hnews : ∀ j u, news[j]? = some u → w.cell? (ad.add j) = some u) (lle : len ≤ 65536) (hb : bytes ≤ 65536) :
    ∃ a' cap' w', (Builtin.append_ #[t, t] ty #[.slice a len cap, .slice (some ad) 1 1]).run P w = .ok (.slice a' (len + 1) cap') w' ∧
      w'.ownsRow 0 e size (.slice a' (len + 1) cap') (len + 1) (xs ++ news) ∧ Only (RowOf a) w w' ∧ SameOrNew w a a' := by
  obtain ⟨i0, hi0, hz0, hz1, hz2⟩ := info_parts hi
  by_cases hroom : len + 1 ≤ cap
  · rcases hown.2 with ⟨e, e2⟩ | ⟨g, c, cur, e, _, _, hc, _⟩
    · simp only [Value.slice.injEq] at e; omega
    · simp only [Value.slice.injEq] at e
      obtain ⟨rfl, _, rfl⟩ := e
      obtain ⟨w', hr, ho, hg⟩ := run_append_fits (P := P) w 0 t ty _ i0 size ht hi0 hz1 g len cap xs hown ad 1 1 news (by rw [hl]; omega) hnews hone hroom
      exact ⟨_, _, w', hr, ho, (Only.ofGrown hg).mono (fun q hq => by simp at hq; exact ⟨_, rfl, hq⟩), fun x hx => .inl ⟨x, hx, rfl⟩⟩
  · obtain rfl : cap = len := by
      rcases hown.2 with ⟨e, e2⟩ | ⟨g, c, cur, e, _, _, hc, _⟩
      · simp only [Value.slice.injEq] at e; omega
      · simp only [Value.slice.injEq] at e; omega
    have hbb : (cap + 1) * bytes ≤ 65537 * 65536 := Nat.mul_le_mul (by omega) hb
    obtain ⟨c', w', hr, ho, hg⟩ := run_append_new (P := P) w t ty _ i0 _ size bytes ht hi0 hz0 hz1 hz2 hzs a cap xs hown ad 1 1 (by decide) news (by rw [hl]; omega) hnews (by unfold maxLen; omega) (by omega)
    exact ⟨_, _, w', hr, ho, hg.nilTo _, fun x hx => .inr (by simp only [Option.some.injEq] at hx; rw [← hx]; exact Nat.le_refl _)⟩

theorem Try.infoPO : (Try.prog.info? 50).map (fun i => (i.zero, i.size, i.bytes)) = some (some (.pointer none), 1, 8) := by kernel_rfl
/-- A row of pointers (or of none: 0 stands for none .. as o says). -/
def PRow (w : World) (v : Value) (X : List Value) : Prop := w.ownsRow 0 50 1 v X.length X
theorem PRow.keep {S : Nat → Prop} {w w' : World} {v : Value} {X : List Value} (h : PRow w v X) (o : Only S w w') (hS : ∀ g, some g = v.ownBlock → ¬ S g) : PRow w' v X := own_keep h o hS
theorem PRow.nil {w w' : World} {v : Value} {X : List Value} (h : PRow w v X) (o : Only Nil w w') : PRow w' v X := own_keep h o (fun _ _ h => h)
theorem PRow.empty (w : World) : PRow w (.slice none 0 0) [] := World.ownsRow_nil _ _ _ _
theorem PRow.lt {w : World} {v : Value} {X : List Value} (h : PRow w v X) {g : Nat} (hg : some g = v.ownBlock) : g < w.heap.size := by
  rcases h.2 with ⟨rfl, _⟩ | ⟨g', c, cur, rfl, _, hh, _⟩
  · simp [Value.ownBlock] at hg
  · have : g = g' := by simpa [Value.ownBlock] using hg
    subst this
    exact lt_of_block hh
theorem PRow.cell {w : World} {a : Option Addr} {n c : Nat} {X : List Value} (h : PRow w (.slice a n c) X) (q : Nat) (hq : q < n) :
    X.length = n ∧ ∃ g, a = some ⟨g, 0, none⟩ ∧ w.cell? ⟨g, q, none⟩ = some (X.getD q .nilFunc) := by
  have hl : X.length = n := by
    rcases h.2 with ⟨e, e2⟩ | ⟨g, c', cur, e, _⟩
    · simp only [Value.slice.injEq] at e; omega
    · simp only [Value.slice.injEq] at e; omega
  refine ⟨hl, ?_⟩
  subst hl
  have h' : w.ownsRow 0 50 1 (.slice a X.length c) X.length X := h
  rcases h.2 with ⟨_, h0⟩ | ⟨g, c', cur, hv, _, hg, _⟩
  · rw [h0] at hq; simp at hq
  · simp only [Value.slice.injEq] at hv
    obtain ⟨rfl, _, rfl⟩ := hv
    refine ⟨g, rfl, ?_⟩
    rw [h'.cellAt q (by omega)]
    simp [hq]
/-- One more at the end of a row. -/
theorem ppush {w : World} {a : Option Addr} {n c : Nat} {X : List Value} (h : PRow w (.slice a n c) X) (hn : X.length = n) (x : Nat) (few : n ≤ 65000) :
    ∃ a' c' w5, (Builtin.append_ #[48, 48] 48 #[.slice a n c, .slice (some ⟨w.heap.size, 0, none⟩) 1 1]).run Try.prog (w.alloc (.cells #[ptr x] 50)) = .ok (.slice a' (n + 1) c') w5 ∧
      Hid (PRow w5 (.slice a' (n + 1) c') (X ++ [ptr x]) ∧ Only (RowOf a) w w5 ∧ SameOrNew w a a') := by
  subst hn
  have oA : Only Nil w (w.alloc (.cells #[ptr x] 50)) := (Only.refl Nil w).alloc _
  obtain ⟨a', c', w5, hr, ho, hon, hsn⟩ := run_append_end (P := Try.prog) (w := w.alloc (.cells #[ptr x] 50)) (t := 48) (ty := 48) (e := 50) (size := 1) (bytes := 8) Try.underlying48 Try.infoPO rfl (own_keep h oA (fun _ _ h => h)) ⟨w.heap.size, 0, none⟩ [ptr x] rfl (by intro u hu; simp at hu; subst hu; rfl)
    (fun j u hj => by
      rw [add_zeroZ, cell_of_row _ w.heap.size _ _ _ _ (heap_new w (.cells #[ptr x] 50))]
      simpa using hj) (by omega) (by decide)
  refine ⟨a', c', w5, hr, Lib.hid ⟨?_, (oA.nilTo _).trans hon, fun y hy => (hsn y hy).imp id (fun e => Nat.le_trans oA.size e)⟩⟩
  unfold PRow
  rw [List.length_append]
  exact ho

/-- Operations side by side: the i-th one's struct is ob i, it stands at st i, it lies in F i; R are a law's own blocks. -/
structure Crew (A : BA) (w0 w : World) (R : Nat → Prop) (I : Nat → Prop) (ob : Nat → Nat) (st : Nat → PS) (F : Nat → Nat → Prop) : Prop where
  op : ∀ i, I i → PIn A w (F i) (ob i) (st i)
  dj : ∀ i j, I i → I j → i ≠ j → ∀ x, F i x → ¬ F j x
  out : ∀ i, I i → ∀ x, F i x → ¬ R x
  low : ∀ i, I i → ∀ x, F i x → w0.heap.size ≤ x
section
variable {A : BA} {w0 w w' : World} {R R' I : Nat → Prop} {ob : Nat → Nat} {st : Nat → PS} {F : Nat → Nat → Prop} {L : List Int} {t : Int}
theorem Crew.nil (h : Crew A w0 w R I ob st F) (o : Only Nil w w') : Crew A w0 w' R I ob st F := { h with op := fun i hi => (h.op i hi).nil o }
/-- A law's own blocks have turned, and there are other ones now, which are new or were its own. -/
theorem Crew.rows (h : Crew A w0 w R I ob st F) (o : Only R w w') (hR : ∀ x, R' x → R x ∨ w.heap.size ≤ x) : Crew A w0 w' R' I ob st F :=
  ⟨fun i hi => (h.op i hi).keep o (h.out i hi), h.dj, fun i hi x hx hr => (hR x hr).elim (h.out i hi x hx) (fun l => by have := (h.op i hi).lt x hx; omega), h.low⟩
/-- One operation is put into the place p. -/
theorem Crew.put (h : Crew A w0 w R I ob st F) (o : Only Nil w w') (hw : w0.heap.size ≤ w.heap.size) {p q : Nat} {s : PS} (hP : PIn A w' (fun i => w.heap.size ≤ i ∧ i < w'.heap.size) q s) (hR : ∀ x, R x → x < w.heap.size) :
    Crew A w0 w' R (fun i => i = p ∨ I i) (upd ob p q) (upd st p s) (upd F p (fun i => w.heap.size ≤ i ∧ i < w'.heap.size)) := by
  have hlt : ∀ i, I i → ∀ x, F i x → x < w.heap.size := fun i hi x hx => (h.op i hi).lt x hx
  refine ⟨fun i hi => ?_, fun i j hi hj hne x hx hy => ?_, fun i hi x hx hr => ?_, fun i hi x hx => ?_⟩
  · by_cases e : i = p
    · subst e; rw [upd_same, upd_same, upd_same]; exact hP
    · rw [upd_other _ _ _ _ e, upd_other _ _ _ _ e, upd_other _ _ _ _ e]
      exact (h.op i (hi.resolve_left e)).nil o
  · by_cases e : i = p
    · subst e
      rw [upd_same] at hx
      rw [upd_other _ _ _ _ (fun e => hne e.symm)] at hy
      have := hlt j (hj.resolve_left (fun e => hne e.symm)) x hy
      have := hx.1; omega
    · rw [upd_other _ _ _ _ e] at hx
      by_cases e2 : j = p
      · subst e2
        rw [upd_same] at hy
        have := hlt i (hi.resolve_left e) x hx
        have := hy.1; omega
      · rw [upd_other _ _ _ _ e2] at hy
        exact h.dj i j (hi.resolve_left e) (hj.resolve_left e2) hne x hx hy
  · by_cases e : i = p
    · subst e; rw [upd_same] at hx; have := hR x hr; have := hx.1; omega
    · rw [upd_other _ _ _ _ e] at hx; exact h.out i (hi.resolve_left e) x hx hr
  · by_cases e : i = p
    · subst e; rw [upd_same] at hx; have := hx.1; omega
    · rw [upd_other _ _ _ _ e] at hx; exact h.low i (hi.resolve_left e) x hx
/-- One of them makes a step. -/
theorem Crew.step (h : Crew A w0 w R I ob st F) (hw : w0.heap.size ≤ w.heap.size) (hR : ∀ x, R x → x < w.heap.size) {p : Nat} (hp : I p) (hB : Bx w A L t) (ok : (st p).ok) (hn : PNums A L) (t1 : t < 4611686018427386000) :
    Calls Try.prog 30 #[ptr (ob p)] w fun e w' => e = .returned (.bool (pstepS A L (st p)).isO) ∧ Hid (∃ F', Crew A w0 w' R I ob (upd st p (pstepS A L (st p))) F' ∧ Bx w' A (pstepL A L (st p)) (pstepT (st p) t) ∧ Only (fun i => Blk A.hb A.rb i ∨ F p i) w w') := by
  refine (step_any (st p) hB (h.op p hp) ok hn t1).mono ?_
  rintro e w' ⟨rfl, ⟨F', hF, hP⟩, b', o⟩
  have hlt : ∀ i, I i → ∀ x, F i x → x < w.heap.size := fun i hi x hx => (h.op i hi).lt x hx
  refine ⟨rfl, Lib.hid ⟨upd F p F', ⟨fun i hi => ?_, fun i j hi hj hne x hx hy => ?_, fun i hi x hx hr => ?_, fun i hi x hx => ?_⟩, b', o⟩⟩
  · by_cases e : i = p
    · subst e; rw [upd_same, upd_same]; exact hP
    · rw [upd_other _ _ _ _ e, upd_other _ _ _ _ e]
      exact (h.op i hi).keep o (fun x hx hs => hs.elim (fun z => (h.op i hi).own x hx (.inl z)) (fun z => h.dj i p hi hp e x hx z))
  · by_cases e : i = p
    · subst e
      rw [upd_same] at hx
      have e2 : ¬ j = i := fun e => hne e.symm
      rw [upd_other _ _ _ _ e2] at hy
      rcases hF x hx with z | z
      · exact h.dj i j hi hj hne x z hy
      · have := hlt j hj x hy; omega
    · rw [upd_other _ _ _ _ e] at hx
      by_cases e2 : j = p
      · subst e2
        rw [upd_same] at hy
        rcases hF x hy with z | z
        · exact h.dj i j hi hj hne x hx z
        · have := hlt i hi x hx; omega
      · rw [upd_other _ _ _ _ e2] at hy
        exact h.dj i j hi hj hne x hx hy
  · by_cases e : i = p
    · subst e
      rw [upd_same] at hx
      rcases hF x hx with z | z
      · exact h.out i hi x z hr
      · have := hR x hr; omega
    · rw [upd_other _ _ _ _ e] at hx; exact h.out i hi x hx hr
  · by_cases e : i = p
    · subst e
      rw [upd_same] at hx
      rcases hF x hx with z | z
      · exact h.low i hi x z
      · omega
    · rw [upd_other _ _ _ _ e] at hx; exact h.low i hi x hx
end
end Go.Proofs.Ytmkcmncbiancgaa.Po
