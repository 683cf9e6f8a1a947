/- One step of an operation of a box, wherever it stands: one contract. -/
import Derived.Test.YtmkcmncbiancgaaPoI
namespace Go.Proofs.Ytmkcmncbiancgaa.Po
open Go.RowKit Go.Proofs.Ytmkcmncbiancgaa

/-- The blocks of a box. -/
def BA.own (A : BA) (i : Nat) : Prop := Blk A.hb A.rb i ∨ i = A.bx ∨ i = A.mg ∨ i = A.ng
/-- A box, its rings, its memory. -/
structure Bx (w : World) (A : BA) (L : List Int) (t : Int) : Prop where
  box : BoxAt w A
  rng : ∀ k, Rng w (A.rg k) A.hb A.rb (A.bb k) (A.cc k) L t
  nb : ¬ Blk A.hb A.rb A.bx
  b1 : A.b ≤ 1000
  b0 : A.b + 1 < L.length
section
variable {A : BA} {F G H H' S : Nat → Prop} {w W w' w1 w2 : World} {g f v p : Value} {s : PS} {ro a r q ob sg : Nat} {k : Bool} {os : OS} {L L' : List Int} {t t' : Int}
theorem Bx.mem (h : Bx w A L t) : MemAt w A.hb A.rb L t := (h.rng false).mem
theorem Bx.t0 (h : Bx w A L t) : 0 ≤ t := (h.rng false).t0
theorem own_rg (A : BA) (k : Bool) : A.own (A.rg k) := by cases k <;> simp [BA.own, BA.rg]
theorem Bx.own_lt (h : Bx w A L t) (i : Nat) (hi : A.own i) : i < w.heap.size := by
  rcases hi with (rfl | rfl) | rfl | rfl | rfl
  · exact h.mem.lt_hb
  · exact h.mem.lt_rb
  · exact lt_of_block h.box
  · exact (h.rng false).ring.lt
  · exact (h.rng true).ring.lt
theorem Bx.of (h : Bx w A L t) (o : Only S w w') (h1 : ¬ S A.bx) (h2 : ∀ k, ¬ S (A.rg k)) (m : MemAt w' A.hb A.rb L' t') (hl : L'.length = L.length) (t0 : 0 ≤ t') : Bx w' A L' t' :=
  ⟨h.box.keep o h1, fun k => { h.rng k with ring := (h.rng k).ring.keep o (h2 k), mem := m, len := by rw [hl]; exact (h.rng k).len, t0 := t0 }, h.nb, h.b1, by rw [hl]; exact h.b0⟩
theorem Bx.keep (h : Bx w A L t) (o : Only S w w') (hs : ∀ i, A.own i → ¬ S i) : Bx w' A L t :=
  h.of o (hs _ (.inr (.inl rfl))) (fun k => hs _ (own_rg A k)) (h.mem.keep o (hs _ (.inl (.inl rfl))) (hs _ (.inl (.inr rfl)))) rfl h.t0
theorem Bx.nil (h : Bx w A L t) (o : Only Nil w w') : Bx w' A L t := h.keep o (fun _ _ h => h)
theorem Bx.drewN (h : Bx w A L t) (n : Nat) : Bx (w.drewN n) A L t := h.nil ((Only.refl Nil w).drewN n)

/-- An operation stands, at block ob, at s; it lies in blocks of F. -/
structure PIn (A : BA) (w : World) (F : Nat → Prop) (ob : Nat) (s : PS) : Prop where
  lt : ∀ i, F i → i < w.heap.size
  own : ∀ i, F i → ¬ A.own i
  fo : F ob
  nx : ∃ p f, OpO w ob p f s.o s.x ∧ Form p f ∧ ∃ G : Nat → Prop, (∀ i, G i → F i ∧ i ≠ ob) ∧ Nx A G w p f s
theorem OpO.keep {o x : Int} (h : OpO w ob p f o x) (k : Only S w w') (hs : ¬ S ob) : OpO w' ob p f o x := block_at h k hs
theorem PIn.keep (h : PIn A w F ob s) (o : Only S w w') (hs : ∀ i, F i → ¬ S i) : PIn A w' F ob s := by
  obtain ⟨p, f, h1, h2, G, h3, h4⟩ := h.nx
  exact ⟨fun i hi => Nat.lt_of_lt_of_le (h.lt i hi) o.size, h.own, h.fo, p, f, h1.keep o (hs _ h.fo), h2, G, h3, h4.keep o (fun i hi => hs i (h3 i hi).1)⟩
theorem PIn.nil (h : PIn A w F ob s) (o : Only Nil w w') : PIn A w' F ob s := h.keep o (fun _ _ h => h)
/-- What a step may turn. -/
def OF (A : BA) (F : Nat → Prop) (i : Nat) : Prop := Blk A.hb A.rb i ∨ F i

theorem isO_o (hk : s.ok) : (s.o != 0) = s.isO := by
  cases s <;> first | rfl | skip
  case over n x => simp only [PS.o, PS.isO, bne_iff_ne, ne_eq]; have : 1 ≤ n := hk; omega
theorem overP (h : PIn A w F ob s) (hk : s.ok) : Calls Try.prog 48 #[ptr ob] w fun e w' => e = .returned (.bool s.isO) ∧ w = w' := by
  obtain ⟨p, f, h1, _⟩ := h.nx
  have := pover_any h1
  rwa [isO_o hk] at this
theorem outcomeP (h : PIn A w F ob s) : Calls Try.prog 31 #[ptr ob] w fun e w' => e = .returned (.int .i64 s.o) ∧ w = w' := by
  obtain ⟨p, f, h1, _⟩ := h.nx
  exact poutcome_any h1
theorem valueP (h : PIn A w F ob s) : Calls Try.prog 49 #[ptr ob] w fun e w' => e = .returned (.int .u64 s.x) ∧ w = w' := by
  obtain ⟨p, f, h1, _⟩ := h.nx
  exact pvalue_any h1
/-- What one step leaves. -/
def Done1 (A : BA) (L : List Int) (t : Int) (F : Nat → Prop) (ob : Nat) (w : World) (s : PS) (w' : World) : Prop :=
  (∃ F' : Nat → Prop, (∀ i, F' i → F i ∨ w.heap.size ≤ i) ∧ PIn A w' F' ob s) ∧ Bx w' A L t ∧ Only (OF A F) w w'
/-- Behind the last store. -/
theorem done1 {p' f' : Value} (hP : PIn A w F ob s) (hB : Bx w A L t) (hS : ∀ i, S i → Blk A.hb A.rb i ∨ (F i ∧ i ≠ ob)) (hG : ∀ i, G i → F i ∧ i ≠ ob) (fm : Form p' f') {s' : PS}
    (n : Nx A (Ext w w2 G) w2 p' f' s') (o : Only S w w2) (m : MemAt w2 A.hb A.rb L' t') (hl : L'.length = L.length) (t0 : 0 ≤ t') (hob : OpO w2 ob p f 0 0) :
    Done1 A L' t' F ob w s' (set4 w2 ob p' f' (.int .i64 s'.o) (.int .u64 s'.x)) := by
  have k := set4_only w2 ob p' f' (.int .i64 s'.o) (.int .u64 s'.x)
  have ks := k.size
  have os := o.size
  have lo := hP.lt ob hP.fo
  have no := hP.own ob hP.fo
  have o2 : Only (OF A F) w (set4 w2 ob p' f' (.int .i64 s'.o) (.int .u64 s'.x)) :=
    (o.mono (fun i hi => (hS i hi).imp id (fun h => h.1))).trans (k.mono (fun i hi => .inr (by have e : i = ob := hi; rw [e]; exact hP.fo)))
  have ne : ∀ i, A.own i → ¬ i = ob := fun i hi e => no (e ▸ hi)
  refine ⟨⟨Ext w (set4 w2 ob p' f' (.int .i64 s'.o) (.int .u64 s'.x)) F, fun i hi => hi.imp id (fun h => h.1), fun i hi => ?_, fun i hi ho => ?_, .inl hP.fo, p', f', set4_heap hob p' f' _ _, fm, Ext w w2 G, fun i hi => ?_, n.keep k (fun i hi e => ?_)⟩, ?_, o2⟩
  · rcases hi with hi | hi
    · have := hP.lt i hi; omega
    · exact hi.2
  · rcases hi with hi | hi
    · exact hP.own i hi ho
    · have := hB.own_lt i ho; omega
  · rcases hi with hi | hi
    · exact ⟨.inl (hG i hi).1, (hG i hi).2⟩
    · exact ⟨.inr ⟨hi.1, by omega⟩, by omega⟩
  · have e : i = ob := e
    rcases hi with hi | hi
    · exact (hG i hi).2 e
    · omega
  · have nS : ∀ i, A.own i → ¬ Blk A.hb A.rb i → ¬ S i := fun i hi hb h => (hS i h).elim hb (fun z => hP.own i z.1 hi)
    have B2 : Bx w2 A L' t' := hB.of o (nS _ (.inr (.inl rfl)) hB.nb) (fun kk => nS _ (own_rg A kk) (hB.rng kk).ne) m hl t0
    exact B2.keep k (fun i hi e => ne i hi e)

/-! A ring's operation as the part. -/
theorem op_head {rg : Nat} (h : OpIn w ro rg os) : ∃ a, w.heap[ro]? = some (.cells a 116 (0, 0)) := by
  obtain ⟨_, _, _, h, _⟩ := h
  exact ⟨_, h.head⟩
theorem At.not {o : Obj} {i : Nat} (h : At F w i o) {b : Array Value} {tt : TypeId} (hr : w.heap[ro]? = some (.cells b tt (0, 0))) (hd : o ≠ .cells b tt (0, 0)) : At (fun i => F i ∧ i ≠ ro) w i o :=
  ⟨⟨h.1, fun e => hd (Option.some.inj (h.2.symm.trans ((congrArg (fun z => w.heap[z]?) e).trans hr)))⟩, h.2⟩
theorem rests_not {b : Array Value} (hr : w.heap[ro]? = some (.cells b 116 (0, 0))) (h : rests F w v k) : rests (fun i => F i ∧ i ≠ ro) w v k := by
  cases k
  · obtain ⟨g, e, h⟩ := h; exact ⟨g, e, h.not hr (cells_ne (by decide))⟩
  · obtain ⟨g, e, h⟩ := h; exact ⟨g, e, h.not hr (cells_ne (by decide))⟩
theorem capR_not {b : Array Value} (hr : w.heap[ro]? = some (.cells b 116 (0, 0))) (h : capR A F w a r k) : capR A (fun i => F i ∧ i ≠ ro) w a r k := by
  obtain ⟨h1, v, h2, h3⟩ := h
  exact ⟨h1.not hr (cells_ne (by decide)), v, h2.not hr (cells_ne (by decide)), rests_not hr h3⟩
theorem beh_not {b : Array Value} (hr : w.heap[ro]? = some (.cells b 116 (0, 0))) (h : Beh A F w f ro s) : Beh A (fun i => F i ∧ i ≠ ro) w f ro s := by
  cases s <;> simp only [Beh] at h ⊢
  case put => obtain ⟨a, r, e, h⟩ := h; exact ⟨a, r, e, capR_not hr h⟩
  case whole => obtain ⟨q, e, h⟩ := h; exact ⟨q, e, h.not hr (cells_ne (by decide))⟩
  all_goals (obtain ⟨a, q, e, h, h2⟩ := h; exact ⟨a, q, e, h.not hr (cells_ne (by decide)), h2.not hr (cells_ne (by decide))⟩)

/-- Behind a ring's operation that is over: its closure, as one contract. -/
def BehC (A : BA) (G : Nat → Prop) (bf : Nat) (cs : Array Value) (ro rg : Nat) (o : Nat) (x : Int) (tk : Nat) (w : World) (s' : PS) : Prop :=
  ∀ w1, OpIn w1 ro rg (.over o x tk) → Only (fun i => Blk A.hb A.rb i ∨ i = ro) w w1 → Calls Try.prog bf (#[.int .i64 (o : Int)] ++ cs) w1 (NP A G Nil w1 s')
theorem RSt.step (hB : Bx w A L t) (hO : OpIn w ro (A.rg k) os) (ok : rok os) (hn : PNums A L) (t1 : t < 4611686018427386000) (n1 : ¬ Blk A.hb A.rb ro) (n2 : ro ≠ A.rg k) :
    Calls Try.prog 127 #[ptr ro] w fun e w' =>
      e = .returned (.bool (stepS (A.bb k) (A.cc k) L os).isO) ∧ OpIn w' ro (A.rg k) (stepS (A.bb k) (A.cc k) L os) ∧ Rng w' (A.rg k) A.hb A.rb (A.bb k) (A.cc k) (stepL (A.bb k) (A.cc k) L os) (stepT os t) ∧ Only (OB A.hb A.rb ro) w w' :=
  dstep_any os (hB.rng k) hO n1 n2 ok.2 (hn.of k) t1
set_option maxHeartbeats 1000000 in
theorem ring_step {bf : Nat} {cs : Array Value} {go : OS → PS} {kk : Nat → Int → PS} (eg : ∀ args w, (callFunc bf args).run Try.prog w = .ok (.enter bf args) w)
    (hP : PIn A w F ob s) (hB : Bx w A L t) (ok : rok os) (hn : PNums A L) (t1 : t < 4611686018427386000)
    (hOp : OpO w ob (opI ro) (.func (.func bf) #[] cs) 0 0) (hG : ∀ i, G i → F i ∧ i ≠ ob) (hr : G ro) (hO : OpIn w ro (A.rg k) os)
    (hgo : ∀ os', os'.isO = false → (go os').ring = some (k, os') ∧ (go os').o = 0 ∧ (go os').x = 0 ∧ ∀ w1, OpIn w1 ro (A.rg k) os' → Only (fun i => Blk A.hb A.rb i ∨ i = ro) w w1 → Nx A G w1 (opI ro) (.func (.func bf) #[] cs) (go os'))
    (hk : ∀ o x tk, 1 ≤ o → (kk o x).ok ∧ BehC A (fun i => G i ∧ i ≠ ro) bf cs ro (A.rg k) o x tk w (kk o x)) :
    Calls Try.prog 30 #[ptr ob] w fun e w' => e = .returned (.bool (fin (stepS (A.bb k) (A.cc k) L os) go kk).isO) ∧
      Done1 A (stepL (A.bb k) (A.cc k) L os) (t + 1) F ob w (fin (stepS (A.bb k) (A.cc k) L os) go kk) w' := by
  have gr := hG ro hr
  have nB : ∀ i, F i → ¬ Blk A.hb A.rb i := fun i hi h => hP.own i hi (.inl h)
  have hob : ¬ (Blk A.hb A.rb ob ∨ ob = ro) := fun h => h.elim (nB ob hP.fo) (fun e => gr.2 e.symm)
  have st := RSt.step hB hO ok hn t1 (nB ro gr.1) (fun e => hP.own ro gr.1 (e ▸ own_rg A k))
  have eT : stepT os t = t + 1 := by unfold stepT; rw [ok.1]; rfl
  rw [eT] at st
  have tk' := stepS_tk (A.bb k) (A.cc k) L os ok.2 (hn.of k)
  have oS : ∀ {w1}, Only (OB A.hb A.rb ro) w w1 → Only (fun i => Blk A.hb A.rb i ∨ i = ro) w w1 := fun h => h
  cases hf : (stepS (A.bb k) (A.cc k) L os).isO with
  | false =>
    rw [fin_go _ _ _ hf]
    rw [hf] at st
    obtain ⟨g1, g2, g3, g4⟩ := hgo _ hf
    have gi : (go (stepS (A.bb k) (A.cc k) L os)).isO = false := by
      cases hh : go (stepS (A.bb k) (A.cc k) L os) <;> first | rfl | (rw [hh] at g1; cases g1)
    rw [gi]
    refine (cstep_on (Q := fun w1 => OpIn w1 ro (A.rg k) (stepS (A.bb k) (A.cc k) L os) ∧ Rng w1 (A.rg k) A.hb A.rb (A.bb k) (A.cc k) (stepL (A.bb k) (A.cc k) L os) (t + 1) ∧ Only (OB A.hb A.rb ro) w w1) hOp st (fun w1 q => hOp.keep q.2.2 hob)).mono ?_
    rintro e w1 ⟨rfl, q1, q2, q3⟩
    have no : ∀ i, A.own i → ¬ Blk A.hb A.rb i → ¬ OB A.hb A.rb ro i := fun i hi hb h => h.elim hb (fun e => hP.own ro gr.1 (e ▸ hi))
    refine ⟨rfl, ⟨F, fun i hi => .inl hi, ⟨fun i hi => Nat.lt_of_lt_of_le (hP.lt i hi) q3.size, hP.own, hP.fo, opI ro, _, ?_, .inr ⟨_, _, _, _, rfl, rfl⟩, G, hG, g4 w1 q1 (oS q3)⟩⟩, ?_, q3.mono (fun i hi => hi.imp id (fun e => by rw [e]; exact gr.1))⟩
    · rw [g2, g3]; exact hOp.keep q3 hob
    · exact hB.of q3 (no _ (.inr (.inl rfl)) hB.nb) (fun kk => no _ (own_rg A kk) (hB.rng kk).ne) q2.mem (stepL_length _ _ _ _) (by have := hB.t0; omega)
  | true =>
    obtain ⟨o, x, tk, hh⟩ := isO_of hf
    rw [hf] at st
    rw [hh] at st tk' ⊢
    rw [fin_over]
    obtain ⟨k1, k2⟩ := hk o x tk tk'
    rw [← isO_o k1]
    have hgS : ∀ i, OB A.hb A.rb ro i → Blk A.hb A.rb i ∨ (F i ∧ i ≠ ob) := fun i hi => hi.imp id (fun e => by rw [e]; exact gr)
    refine (cstep_ring (Q := fun w1 => OpIn w1 ro (A.rg k) (.over o x tk) ∧ Rng w1 (A.rg k) A.hb A.rb (A.bb k) (A.cc k) (stepL (A.bb k) (A.cc k) L os) (t + 1) ∧ Only (OB A.hb A.rb ro) w w1)
      (R := fun p f w2 => Nx A (Ext w w2 (fun i => G i ∧ i ≠ ro)) w2 p f (kk o x) ∧ MemAt w2 A.hb A.rb (stepL (A.bb k) (A.cc k) L os) (t + 1) ∧ Only (OB A.hb A.rb ro) w w2) (o := (o : Int)) (o' := (kk o x).o) (x' := (kk o x).x)
      eg hOp st (fun w1 q => hOp.keep q.2.2 hob) (fun w1 n q => ⟨q.1.drewN n, q.2.1.drewN n, q.2.2.drewN n⟩) (fun w1 q => outcomeO q.1) (fun w1 q => ?_) (fun p f w2 r => hOp.keep r.2.2 hob) (fun p f w2 n r => ?_)).mono ?_
    · refine (k2 w1 q.1 (oS q.2.2)).mono ?_
      rintro e w2 ⟨p, f, rfl, fm, n, oo⟩
      have z1 := q.2.2.size
      exact ⟨p, f, rfl, fm, n.mono (fun i hi => hi.imp id (fun z => ⟨by omega, z.2⟩)), q.2.1.mem.keep oo (fun h => h) (fun h => h), q.2.2.trans (oo.nilTo _)⟩
    · exact ⟨(r.1.keep ((Only.refl Nil w2).drewN n) (fun _ _ h => h)), r.2.1.drewN n, r.2.2.drewN n⟩
    · rintro e w' ⟨p, f, w2, rfl, fm, ⟨r1, r2, r3⟩, rfl⟩
      exact ⟨rfl, done1 hP hB hgS (fun i hi => hG i hi.1) fm r1 r3 r2 (stepL_length _ _ _ _) (by have := hB.t0; omega) (hOp.keep r3 hob)⟩
/-! A single access as the part. -/
set_option maxHeartbeats 1000000 in
theorem sing_step {fn : Nat} {cs : Array Value} {y0 y1 y2 y3 : Value} {s' : PS} (eg : ∀ args w, (callFunc fn args).run Try.prog w = .ok (.enter fn args) w)
    (hP : PIn A w F ob s) (hB : Bx w A L t)
    (hOp : OpO w ob (sgI sg) (clo1 71 q) 0 0) (hG : ∀ i, G i → F i ∧ i ≠ ob) (hq : At G w q (one (ptr sg) 110)) (hs : At G w sg (.cells #[.func (.func fn) #[] cs, y0, y1, y2, y3] 112 (0, 0)))
    (hH : ∀ i, H i → G i ∧ i ≠ sg) (hf : Calls Try.prog fn cs w (NPM A H L' (t + 1) w s')) (hl : L'.length = L.length) (ok' : s'.ok) :
    Calls Try.prog 30 #[ptr ob] w fun e w' => e = .returned (.bool s'.isO) ∧ Done1 A L' (t + 1) F ob w s' w' := by
  have gs := hG sg hs.1
  have nB : ∀ i, F i → ¬ Blk A.hb A.rb i := fun i hi h => hP.own i hi (.inl h)
  have hob : ¬ (Blk A.hb A.rb ob ∨ ob = sg) := fun h => h.elim (nB ob hP.fo) (fun e => gs.2 e.symm)
  have qs : q ≠ sg := hq.ne hs (cells_ne (by decide))
  have hq2 : ¬ (Blk A.hb A.rb q ∨ q = sg) := fun h => h.elim (nB q (hG q hq.1).1) qs
  have hH' : ∀ i, H i → ¬ (Blk A.hb A.rb i ∨ i = sg) := fun i hi h => h.elim (nB i (hG i (hH i hi).1).1) (hH i hi).2
  have st := single_step fn eg hs.2 hf (fun h => (hH sg h).2 rfl) (nB sg gs.1)
  have hS : ∀ i, (Blk A.hb A.rb i ∨ i = sg) → Blk A.hb A.rb i ∨ (F i ∧ i ≠ ob) := fun i hi => hi.imp id (fun e => by rw [e]; exact gs)
  rw [← isO_o ok']
  refine (cstep_sing (Q := fun w1 => ∃ p f, Form p f ∧ w1.heap[sg]? = some (.cells #[.func (.func fn) #[] cs, p, f, .int .i64 s'.o, .int .u64 s'.x] 112 (0, 0)) ∧ Nx A (Ext w w1 H) w1 p f s' ∧ Only (fun i => Blk A.hb A.rb i ∨ i = sg) w w1 ∧ MemAt w1 A.hb A.rb L' (t + 1))
    (R := fun p f w2 => Nx A (Ext w w2 H) w2 p f s' ∧ MemAt w2 A.hb A.rb L' (t + 1) ∧ Only (fun i => Blk A.hb A.rb i ∨ i = sg) w w2) (o' := s'.o) (x' := s'.x)
    (enters_of Try.func71 (by kernel_rfl) rfl) hOp ?_ (fun w1 q => ?_) (fun w1 n q => ?_) (fun w1 z => ?_) (fun p f w2 r => hOp.keep r.2.2 hob) (fun p f w2 n r => ?_)).mono ?_
  · refine st.mono ?_
    rintro e w1 ⟨p, f, rfl, z⟩
    exact ⟨rfl, p, f, z⟩
  · obtain ⟨p, f, _, _, _, o, _⟩ := q; exact hOp.keep o hob
  · obtain ⟨p, f, z1, z2, z3, z4, z5⟩ := q; exact ⟨p, f, z1, z2, z3.keep ((Only.refl Nil w1).drewN n) (fun _ _ h => h), z4.drewN n, z5.drewN n⟩
  · obtain ⟨p, f, z1, z2, z3, z4, z5⟩ := z
    refine (b_one 1 (block_at hq.2 z4 hq2) z2 z1).mono ?_
    rintro e w2 ⟨rfl, oo⟩
    have sz := z4.size
    have so := oo.size
    exact ⟨p, f, rfl, z1, (z3.keep oo (fun _ _ h => h)).mono (fun i hi => hi.imp id (fun z => ⟨z.1, by omega⟩)), z5.keep oo (fun h => h) (fun h => h), z4.trans (oo.nilTo _)⟩
  · exact ⟨r.1.keep ((Only.refl Nil w2).drewN n) (fun _ _ h => h), r.2.1.drewN n, r.2.2.drewN n⟩
  · rintro e w' ⟨p, f, w2, rfl, fm, ⟨r1, r2, r3⟩, rfl⟩
    exact ⟨rfl, done1 hP hB hS (fun i hi => hG i (hH i hi).1) fm r1 r3 r2 hl (by have := hB.t0; omega) (hOp.keep r3 hob)⟩
end
end Go.Proofs.Ytmkcmncbiancgaa.Po
