/- A box that a law has made; the document's examples, done by the program. -/
import Derived.Test.YtmkcmncbiancgaaPoN
namespace Go.Proofs.Ytmkcmncbiancgaa.Po
open Go.RowKit Go.Proofs.Ytmkcmncbiancgaa

/-- A law's box: all of it is new since w0; at most N accesses were made. -/
structure Lw (w0 w : World) (A : BA) (L : List Int) (N : Int) : Prop where
  bx : ∃ t, Bx w A L t ∧ t ≤ N
  only : Only Nil w0 w
  low : ∀ i, A.own i → w0.heap.size ≤ i
section
variable {A : BA} {F G H H' S : Nat → Prop} {w0 w W w' w1 w2 : World} {s s' : PS} {ob n : Nat} {L L' : List Int} {t t' N : Int} {e : Ending}
theorem Lw.nil (h : Lw w0 w A L N) (o : Only Nil w w') : Lw w0 w' A L N := by
  obtain ⟨t, b, ht⟩ := h.bx
  exact ⟨⟨t, b.nil o, ht⟩, h.only.trans o, h.low⟩
/-- Begun, and then done at once. -/
theorem Lw.then (h : Lw w0 w A L N) (ok : s.ok) (hr : PRuns A n L s L' s') (hn : n < 100) (hN : N < 4611686018427300000) (M : Int) (hM : N + (n : Int) ≤ M) {o x m : Int} (ho : s'.o = o) (hx : s'.x = x) (hm : (n : Int) = m)
    (hb : Bg A w s e w1) : ∃ ob, e = .returned (ptr ob) ∧ Hid (Calls Try.prog 23 #[ptr ob] w1 fun e' w2 => e' = .returned (.tuple #[.int .i64 o, .int .u64 x, .int .i64 m]) ∧ Hid (Lw w0 w2 A L' M)) := by
  subst ho hx hm
  obtain ⟨t, b, ht⟩ := h.bx
  obtain ⟨ob, rfl, hq, hP, o1⟩ := hb
  refine ⟨ob, rfl, Lib.hid ?_⟩
  refine (done_any (b.nil o1) hP ok hr hn (by omega)).mono ?_
  rintro e' w2 ⟨rfl, b2, o2⟩
  have z := h.only.size
  exact ⟨rfl, Lib.hid ⟨⟨_, b2, by omega⟩, (h.only.trans o1).then o2 (fun i hi hl => absurd hl (by
    rcases hi with hi | hi
    · have := h.low i (.inl hi); omega
    · omega)), h.low⟩⟩
theorem Lw.tell (H : Lw w0 w A L N) (v : Int) (hr : PRuns A n L (.put false (.put0 v)) L' s') (hn : n < 100) (hN : N < 4611686018427300000) (M : Int) (hM : N + (n : Int) ≤ M) {o x m : Int} (ho : s'.o = o) (hx : s'.x = x) (hm : (n : Int) = m) :
    Calls Try.prog 25 #[ptr A.bx, .int .u64 v] w fun e w1 => ∃ ob, e = .returned (ptr ob) ∧ Hid (Calls Try.prog 23 #[ptr ob] w1 fun e' w2 => e' = .returned (.tuple #[.int .i64 o, .int .u64 x, .int .i64 m]) ∧ Hid (Lw w0 w2 A L' M)) := by
  obtain ⟨t, b, ht⟩ := H.bx
  exact (tell_bg v b).mono (fun e w1 hb => H.then (s := .put false (.put0 v)) ⟨rfl, trivial⟩ hr hn hN M hM ho hx hm hb)
theorem Lw.push (H : Lw w0 w A L N) (v : Int) (hr : PRuns A n L (.put true (.put0 v)) L' s') (hn : n < 100) (hN : N < 4611686018427300000) (M : Int) (hM : N + (n : Int) ≤ M) {o x m : Int} (ho : s'.o = o) (hx : s'.x = x) (hm : (n : Int) = m) :
    Calls Try.prog 26 #[ptr A.bx, .int .u64 v] w fun e w1 => ∃ ob, e = .returned (ptr ob) ∧ Hid (Calls Try.prog 23 #[ptr ob] w1 fun e' w2 => e' = .returned (.tuple #[.int .i64 o, .int .u64 x, .int .i64 m]) ∧ Hid (Lw w0 w2 A L' M)) := by
  obtain ⟨t, b, ht⟩ := H.bx
  exact (push_bg v b).mono (fun e w1 hb => H.then (s := .put true (.put0 v)) ⟨rfl, trivial⟩ hr hn hN M hM ho hx hm hb)
theorem Lw.ask (H : Lw w0 w A L N) (v : Int) (hr : PRuns A n L (.ask v) L' s') (hn : n < 100) (hN : N < 4611686018427300000) (M : Int) (hM : N + (n : Int) ≤ M) {o x m : Int} (ho : s'.o = o) (hx : s'.x = x) (hm : (n : Int) = m) :
    Calls Try.prog 29 #[ptr A.bx, .int .u64 v] w fun e w1 => ∃ ob, e = .returned (ptr ob) ∧ Hid (Calls Try.prog 23 #[ptr ob] w1 fun e' w2 => e' = .returned (.tuple #[.int .i64 o, .int .u64 x, .int .i64 m]) ∧ Hid (Lw w0 w2 A L' M)) := by
  obtain ⟨t, b, ht⟩ := H.bx
  exact (ask_bg v b).mono (fun e w1 hb => H.then (s := .ask v) trivial hr hn hN M hM ho hx hm hb)
theorem Lw.begin (H : Lw w0 w A L N) (hr : PRuns A n L (.stand 2) L' s') (hn : n < 100) (hN : N < 4611686018427300000) (M : Int) (hM : N + (n : Int) ≤ M) {o x m : Int} (ho : s'.o = o) (hx : s'.x = x) (hm : (n : Int) = m) :
    Calls Try.prog 27 #[ptr A.bx] w fun e w1 => ∃ ob, e = .returned (ptr ob) ∧ Hid (Calls Try.prog 23 #[ptr ob] w1 fun e' w2 => e' = .returned (.tuple #[.int .i64 o, .int .u64 x, .int .i64 m]) ∧ Hid (Lw w0 w2 A L' M)) := by
  obtain ⟨t, b, ht⟩ := H.bx
  exact (begin_bg b).mono (fun e w1 hb => H.then (s := .stand 2) trivial hr hn hN M hM ho hx hm hb)
theorem Lw.fetch (H : Lw w0 w A L N) (hr : PRuns A n L (.whole false .take0) L' s') (hn : n < 100) (hN : N < 4611686018427300000) (M : Int) (hM : N + (n : Int) ≤ M) {o x m : Int} (ho : s'.o = o) (hx : s'.x = x) (hm : (n : Int) = m) :
    Calls Try.prog 36 #[ptr A.bx] w fun e w1 => ∃ ob, e = .returned (ptr ob) ∧ Hid (Calls Try.prog 23 #[ptr ob] w1 fun e' w2 => e' = .returned (.tuple #[.int .i64 o, .int .u64 x, .int .i64 m]) ∧ Hid (Lw w0 w2 A L' M)) := by
  obtain ⟨t, b, ht⟩ := H.bx
  exact (fetch_bg b).mono (fun e w1 hb => H.then (s := .whole false .take0) ⟨rfl, trivial⟩ hr hn hN M hM ho hx hm hb)
theorem Lw.note (H : Lw w0 w A L N) (hr : PRuns A n L (.whole true .take0) L' s') (hn : n < 100) (hN : N < 4611686018427300000) (M : Int) (hM : N + (n : Int) ≤ M) {o x m : Int} (ho : s'.o = o) (hx : s'.x = x) (hm : (n : Int) = m) :
    Calls Try.prog 28 #[ptr A.bx] w fun e w1 => ∃ ob, e = .returned (ptr ob) ∧ Hid (Calls Try.prog 23 #[ptr ob] w1 fun e' w2 => e' = .returned (.tuple #[.int .i64 o, .int .u64 x, .int .i64 m]) ∧ Hid (Lw w0 w2 A L' M)) := by
  obtain ⟨t, b, ht⟩ := H.bx
  exact (note_bg b).mono (fun e w1 hb => H.then (s := .whole true .take0) ⟨rfl, trivial⟩ hr hn hN M hM ho hx hm hb)
theorem Lw.settle (H : Lw w0 w A L N) (h : Bool) (hr : PRuns A n L (.set h) L' s') (hn : n < 100) (hN : N < 4611686018427300000) (M : Int) (hM : N + (n : Int) ≤ M) {o x m : Int} (ho : s'.o = o) (hx : s'.x = x) (hm : (n : Int) = m) :
    Calls Try.prog 24 #[ptr A.bx, .bool h] w fun e w1 => ∃ ob, e = .returned (ptr ob) ∧ Hid (Calls Try.prog 23 #[ptr ob] w1 fun e' w2 => e' = .returned (.tuple #[.int .i64 o, .int .u64 x, .int .i64 m]) ∧ Hid (Lw w0 w2 A L' M)) := by
  obtain ⟨t, b, ht⟩ := H.bx
  exact (settle_bg h b).mono (fun e w1 hb => H.then (s := .set h) trivial hr hn hN M hM ho hx hm hb)
theorem Lw.close (H : Lw w0 w A L N) (hr : PRuns A n L (.whole false .close0) L' s') (hn : n < 100) (hN : N < 4611686018427300000) (M : Int) (hM : N + (n : Int) ≤ M) {o x m : Int} (ho : s'.o = o) (hx : s'.x = x) (hm : (n : Int) = m) :
    Calls Try.prog 33 #[ptr A.bx] w fun e w1 => ∃ ob, e = .returned (ptr ob) ∧ Hid (Calls Try.prog 23 #[ptr ob] w1 fun e' w2 => e' = .returned (.tuple #[.int .i64 o, .int .u64 x, .int .i64 m]) ∧ Hid (Lw w0 w2 A L' M)) := by
  obtain ⟨t, b, ht⟩ := H.bx
  exact (close_bg b).mono (fun e w1 hb => H.then (s := .whole false .close0) ⟨rfl, trivial⟩ hr hn hN M hM ho hx hm hb)
theorem Lw.drain (H : Lw w0 w A L N) (hr : PRuns A n L (.whole false .drain0) L' s') (hn : n < 100) (hN : N < 4611686018427300000) (M : Int) (hM : N + (n : Int) ≤ M) {o x m : Int} (ho : s'.o = o) (hx : s'.x = x) (hm : (n : Int) = m) :
    Calls Try.prog 34 #[ptr A.bx] w fun e w1 => ∃ ob, e = .returned (ptr ob) ∧ Hid (Calls Try.prog 23 #[ptr ob] w1 fun e' w2 => e' = .returned (.tuple #[.int .i64 o, .int .u64 x, .int .i64 m]) ∧ Hid (Lw w0 w2 A L' M)) := by
  obtain ⟨t, b, ht⟩ := H.bx
  exact (drain_bg b).mono (fun e w1 hb => H.then (s := .whole false .drain0) ⟨rfl, trivial⟩ hr hn hN M hM ho hx hm hb)
theorem Lw.shut (H : Lw w0 w A L N) (hr : PRuns A n L (.stand 4) L' s') (hn : n < 100) (hN : N < 4611686018427300000) (M : Int) (hM : N + (n : Int) ≤ M) {o x m : Int} (ho : s'.o = o) (hx : s'.x = x) (hm : (n : Int) = m) :
    Calls Try.prog 35 #[ptr A.bx] w fun e w1 => ∃ ob, e = .returned (ptr ob) ∧ Hid (Calls Try.prog 23 #[ptr ob] w1 fun e' w2 => e' = .returned (.tuple #[.int .i64 o, .int .u64 x, .int .i64 m]) ∧ Hid (Lw w0 w2 A L' M)) := by
  obtain ⟨t, b, ht⟩ := H.bx
  exact (shut_bg b).mono (fun e w1 hb => H.then (s := .stand 4) trivial hr hn hN M hM ho hx hm hb)
theorem Lw.gone (H : Lw w0 w A L N) (hr : PRuns A n L (.gone) L' s') (hn : n < 100) (hN : N < 4611686018427300000) (M : Int) (hM : N + (n : Int) ≤ M) {o x m : Int} (ho : s'.o = o) (hx : s'.x = x) (hm : (n : Int) = m) :
    Calls Try.prog 32 #[ptr A.bx] w fun e w1 => ∃ ob, e = .returned (ptr ob) ∧ Hid (Calls Try.prog 23 #[ptr ob] w1 fun e' w2 => e' = .returned (.tuple #[.int .i64 o, .int .u64 x, .int .i64 m]) ∧ Hid (Lw w0 w2 A L' M)) := by
  obtain ⟨t, b, ht⟩ := H.bx
  exact (gone_bg b).mono (fun e w1 hb => H.then (s := .gone) trivial hr hn hN M hM ho hx hm hb)
/-- A box made over a memory of its own. -/
theorem make_fresh {c d m : Nat} (hc : 0 < c) (hc2 : c ≤ 64) (hd : 0 < d) (hd2 : d ≤ 64) (hm : 6 + 2 * c + 2 * d ≤ m) (hm2 : m ≤ 1000) (mm : MemAt w1 (w0.heap.size + 1) w0.heap.size (zeros m) 0) (o1 : Only Nil w0 w1) :
    Calls Try.prog 12 #[ptr (w0.heap.size + 1), .int .i64 0, .int .i64 (c : Int), .int .i64 (d : Int)] w1 fun e w2 => ∃ bx mg ng,
      e = .returned (.tuple #[ptr bx, .int .i64 0]) ∧ Hid (Lw w0 w2 ⟨bx, mg, ng, w0.heap.size + 1, w0.heap.size, 0, c, d⟩ (playL (zeros m) 0 c d) 1000) := by
  refine (pmake_yes (b := 0) mm (by omega) (by omega) hc hc2 hd hd2 (by rw [length_zeros]; omega) (by rw [length_zeros]; omega)).mono ?_
  rintro e w2 ⟨bx, mg, ng, rfl, hh⟩
  obtain ⟨b, ⟨l1, l2, l3⟩, o2⟩ := hh.out
  have z := o1.size
  refine ⟨bx, mg, ng, rfl, Lib.hid ⟨⟨_, b, by omega⟩, o1.then o2 (fun i hi hl => absurd hl (by rcases hi with e | e <;> omega)), fun i hi => ?_⟩⟩
  rcases hi with (h | h) | h | h | h
  · have : i = w0.heap.size + 1 := h; omega
  · have : i = w0.heap.size := h; omega
  · have : i = bx := h; omega
  · have : i = mg := h; omega
  · have : i = ng := h; omega
end
/-- What the cells hold behind n steps. -/
def nxt (A : BA) (n : Nat) (L : List Int) (s : PS) : List Int := ((prunB A n L s).map (·.1)).getD []
def alA (bx mg ng hb rb : Nat) : BA := ⟨bx, mg, ng, hb, rb, 0, 1, 2⟩
def alL0 (_ : BA) : List Int := playL (zeros 12) 0 1 2
def alL1 (A : BA) : List Int := nxt A 7 (alL0 A) (.put false (.put0 7))
def alL2 (A : BA) : List Int := nxt A 2 (alL1 A) (.put false (.put0 8))
def alL3 (A : BA) : List Int := nxt A 1 (alL2 A) (.stand 2)
def alL4 (A : BA) : List Int := nxt A 5 (alL3 A) (.whole false .take0)
def alL5 (A : BA) : List Int := nxt A 5 (alL4 A) (.set false)
def alL6 (A : BA) : List Int := nxt A 3 (alL5 A) (.set true)
def alL7 (A : BA) : List Int := nxt A 6 (alL6 A) (.put false (.put0 9))
def alL8 (A : BA) : List Int := nxt A 7 (alL7 A) (.put true (.put0 5))
def alL9 (A : BA) : List Int := nxt A 7 (alL8 A) (.ask 1)
def alL10 (A : BA) : List Int := nxt A 1 (alL9 A) (.ask 1)
theorem al_runs (bx mg ng hb rb : Nat) : ∃ L1 L2 L3 L4 L5 L6 L7 L8 L9 L10 : List Int,
    PRuns ⟨bx, mg, ng, hb, rb, 0, 1, 2⟩ 7 (playL (zeros 12) 0 1 2) (.put false (.put0 7)) L1 (.over 7 0) ∧
    PRuns ⟨bx, mg, ng, hb, rb, 0, 1, 2⟩ 2 L1 (.put false (.put0 8)) L2 (.over 2 0) ∧
    PRuns ⟨bx, mg, ng, hb, rb, 0, 1, 2⟩ 1 L2 (.stand 2) L3 (.over 1 0) ∧
    PRuns ⟨bx, mg, ng, hb, rb, 0, 1, 2⟩ 5 L3 (.whole false .take0) L4 (.over 1 7) ∧
    PRuns ⟨bx, mg, ng, hb, rb, 0, 1, 2⟩ 5 L4 (.set false) L5 (.over 4 0) ∧
    PRuns ⟨bx, mg, ng, hb, rb, 0, 1, 2⟩ 3 L5 (.set true) L6 (.over 4 0) ∧
    PRuns ⟨bx, mg, ng, hb, rb, 0, 1, 2⟩ 6 L6 (.put false (.put0 9)) L7 (.over 1 0) ∧
    PRuns ⟨bx, mg, ng, hb, rb, 0, 1, 2⟩ 7 L7 (.put true (.put0 5)) L8 (.over 7 0) ∧
    PRuns ⟨bx, mg, ng, hb, rb, 0, 1, 2⟩ 7 L8 (.ask 1) L9 (.over 1 0) ∧
    PRuns ⟨bx, mg, ng, hb, rb, 0, 1, 2⟩ 1 L9 (.ask 1) L10 (.over 4 0) :=
  ⟨alL1 (alA bx mg ng hb rb), alL2 (alA bx mg ng hb rb), alL3 (alA bx mg ng hb rb), alL4 (alA bx mg ng hb rb), alL5 (alA bx mg ng hb rb), alL6 (alA bx mg ng hb rb), alL7 (alA bx mg ng hb rb), alL8 (alA bx mg ng hb rb), alL9 (alA bx mg ng hb rb), alL10 (alA bx mg ng hb rb), prun_of (by kernel_rfl), prun_of (by kernel_rfl), prun_of (by kernel_rfl), prun_of (by kernel_rfl), prun_of (by kernel_rfl), prun_of (by kernel_rfl), prun_of (by kernel_rfl), prun_of (by kernel_rfl), prun_of (by kernel_rfl), prun_of (by kernel_rfl)⟩
set_option maxRecDepth 100000 in
set_option maxHeartbeats 8000000 in
theorem alive_any (w : World) : Calls Try.prog 8 #[] w fun e w' => e = .returned (.bool true) ∧ Only Nil w w' := by
  have nw := Lib.hid (_root_.Go.Proofs.Ytmkcmncbiancgaa.new_any 12 w)
  rw [show count 12 = 12 by decide] at nw
  have mk := Lib.hid (fun w1 m o => make_fresh (w0 := w) (w1 := w1) (c := 1) (d := 2) (m := 12) (by decide) (by decide) (by decide) (by decide) (by decide) (by decide) m o)
  simp only [show ((1 : Nat) : Int) = 1 from rfl, show ((2 : Nat) : Int) = 2 from rfl] at mk
  have ll : Hid (∀ bx mg ng, ∃ L0 L1 L2 L3 L4 L5 L6 L7 L8 L9 L10 : List Int, L0 = playL (zeros 12) 0 1 2 ∧ (∀ w1, Lw w w1 ⟨bx, mg, ng, w.heap.size + 1, w.heap.size, 0, 1, 2⟩ L0 1000 → Calls Try.prog 25 #[ptr bx, .int .u64 7] w1 fun e w2 => ∃ ob, e = .returned (ptr ob) ∧ Hid (Calls Try.prog 23 #[ptr ob] w2 fun e' w3 => e' = .returned (.tuple #[.int .i64 7, .int .u64 0, .int .i64 7]) ∧ Hid (Lw w w3 ⟨bx, mg, ng, w.heap.size + 1, w.heap.size, 0, 1, 2⟩ L1 1100))) ∧ (∀ w1, Lw w w1 ⟨bx, mg, ng, w.heap.size + 1, w.heap.size, 0, 1, 2⟩ L1 1100 → Calls Try.prog 25 #[ptr bx, .int .u64 8] w1 fun e w2 => ∃ ob, e = .returned (ptr ob) ∧ Hid (Calls Try.prog 23 #[ptr ob] w2 fun e' w3 => e' = .returned (.tuple #[.int .i64 2, .int .u64 0, .int .i64 2]) ∧ Hid (Lw w w3 ⟨bx, mg, ng, w.heap.size + 1, w.heap.size, 0, 1, 2⟩ L2 1200))) ∧ (∀ w1, Lw w w1 ⟨bx, mg, ng, w.heap.size + 1, w.heap.size, 0, 1, 2⟩ L2 1200 → Calls Try.prog 27 #[ptr bx] w1 fun e w2 => ∃ ob, e = .returned (ptr ob) ∧ Hid (Calls Try.prog 23 #[ptr ob] w2 fun e' w3 => e' = .returned (.tuple #[.int .i64 1, .int .u64 0, .int .i64 1]) ∧ Hid (Lw w w3 ⟨bx, mg, ng, w.heap.size + 1, w.heap.size, 0, 1, 2⟩ L3 1300))) ∧ (∀ w1, Lw w w1 ⟨bx, mg, ng, w.heap.size + 1, w.heap.size, 0, 1, 2⟩ L3 1300 → Calls Try.prog 36 #[ptr bx] w1 fun e w2 => ∃ ob, e = .returned (ptr ob) ∧ Hid (Calls Try.prog 23 #[ptr ob] w2 fun e' w3 => e' = .returned (.tuple #[.int .i64 1, .int .u64 7, .int .i64 5]) ∧ Hid (Lw w w3 ⟨bx, mg, ng, w.heap.size + 1, w.heap.size, 0, 1, 2⟩ L4 1400))) ∧ (∀ w1, Lw w w1 ⟨bx, mg, ng, w.heap.size + 1, w.heap.size, 0, 1, 2⟩ L4 1400 → Calls Try.prog 24 #[ptr bx, .bool false] w1 fun e w2 => ∃ ob, e = .returned (ptr ob) ∧ Hid (Calls Try.prog 23 #[ptr ob] w2 fun e' w3 => e' = .returned (.tuple #[.int .i64 4, .int .u64 0, .int .i64 5]) ∧ Hid (Lw w w3 ⟨bx, mg, ng, w.heap.size + 1, w.heap.size, 0, 1, 2⟩ L5 1500))) ∧ (∀ w1, Lw w w1 ⟨bx, mg, ng, w.heap.size + 1, w.heap.size, 0, 1, 2⟩ L5 1500 → Calls Try.prog 24 #[ptr bx, .bool true] w1 fun e w2 => ∃ ob, e = .returned (ptr ob) ∧ Hid (Calls Try.prog 23 #[ptr ob] w2 fun e' w3 => e' = .returned (.tuple #[.int .i64 4, .int .u64 0, .int .i64 3]) ∧ Hid (Lw w w3 ⟨bx, mg, ng, w.heap.size + 1, w.heap.size, 0, 1, 2⟩ L6 1600))) ∧ (∀ w1, Lw w w1 ⟨bx, mg, ng, w.heap.size + 1, w.heap.size, 0, 1, 2⟩ L6 1600 → Calls Try.prog 25 #[ptr bx, .int .u64 9] w1 fun e w2 => ∃ ob, e = .returned (ptr ob) ∧ Hid (Calls Try.prog 23 #[ptr ob] w2 fun e' w3 => e' = .returned (.tuple #[.int .i64 1, .int .u64 0, .int .i64 6]) ∧ Hid (Lw w w3 ⟨bx, mg, ng, w.heap.size + 1, w.heap.size, 0, 1, 2⟩ L7 1700))) ∧ (∀ w1, Lw w w1 ⟨bx, mg, ng, w.heap.size + 1, w.heap.size, 0, 1, 2⟩ L7 1700 → Calls Try.prog 26 #[ptr bx, .int .u64 5] w1 fun e w2 => ∃ ob, e = .returned (ptr ob) ∧ Hid (Calls Try.prog 23 #[ptr ob] w2 fun e' w3 => e' = .returned (.tuple #[.int .i64 7, .int .u64 0, .int .i64 7]) ∧ Hid (Lw w w3 ⟨bx, mg, ng, w.heap.size + 1, w.heap.size, 0, 1, 2⟩ L8 1800))) ∧ (∀ w1, Lw w w1 ⟨bx, mg, ng, w.heap.size + 1, w.heap.size, 0, 1, 2⟩ L8 1800 → Calls Try.prog 29 #[ptr bx, .int .u64 1] w1 fun e w2 => ∃ ob, e = .returned (ptr ob) ∧ Hid (Calls Try.prog 23 #[ptr ob] w2 fun e' w3 => e' = .returned (.tuple #[.int .i64 1, .int .u64 0, .int .i64 7]) ∧ Hid (Lw w w3 ⟨bx, mg, ng, w.heap.size + 1, w.heap.size, 0, 1, 2⟩ L9 1900))) ∧ (∀ w1, Lw w w1 ⟨bx, mg, ng, w.heap.size + 1, w.heap.size, 0, 1, 2⟩ L9 1900 → Calls Try.prog 29 #[ptr bx, .int .u64 1] w1 fun e w2 => ∃ ob, e = .returned (ptr ob) ∧ Hid (Calls Try.prog 23 #[ptr ob] w2 fun e' w3 => e' = .returned (.tuple #[.int .i64 4, .int .u64 0, .int .i64 1]) ∧ Hid (Lw w w3 ⟨bx, mg, ng, w.heap.size + 1, w.heap.size, 0, 1, 2⟩ L10 2000)))) := Lib.hid (fun bx mg ng => by
    obtain ⟨L1, L2, L3, L4, L5, L6, L7, L8, L9, L10, r0, r1, r2, r3, r4, r5, r6, r7, r8, r9⟩ := al_runs bx mg ng (w.heap.size + 1) w.heap.size
    exact ⟨_, L1, L2, L3, L4, L5, L6, L7, L8, L9, L10, rfl, fun w1 H => H.tell (7) r0 (by decide) (by decide) _ (by decide) rfl rfl rfl, fun w1 H => H.tell (8) r1 (by decide) (by decide) _ (by decide) rfl rfl rfl, fun w1 H => H.begin  r2 (by decide) (by decide) _ (by decide) rfl rfl rfl, fun w1 H => H.fetch  r3 (by decide) (by decide) _ (by decide) rfl rfl rfl, fun w1 H => H.settle false r4 (by decide) (by decide) _ (by decide) rfl rfl rfl, fun w1 H => H.settle true r5 (by decide) (by decide) _ (by decide) rfl rfl rfl, fun w1 H => H.tell (9) r6 (by decide) (by decide) _ (by decide) rfl rfl rfl, fun w1 H => H.push (5) r7 (by decide) (by decide) _ (by decide) rfl rfl rfl, fun w1 H => H.ask (1) r8 (by decide) (by decide) _ (by decide) rfl rfl rfl, fun w1 H => H.ask (1) r9 (by decide) (by decide) _ (by decide) rfl rfl rfl⟩)
  go_enter Try.func8, Try.ntmps8
  go_wp2_with (first
    | (go_at_call 9; refine (nw.out).mono ?_; rintro e w1 ⟨rfl, m1, o1⟩)
    | (go_at_call 12; refine (mk.out _ m1 o1).mono ?_; rintro e w2 ⟨bx, mg, ng, rfl, h0⟩; obtain ⟨L0, L1, L2, L3, L4, L5, L6, L7, L8, L9, L10, e0, r0_, r1_, r2_, r3_, r4_, r5_, r6_, r7_, r8_, r9_⟩ := ll.out bx mg ng; rw [← e0] at h0; have r0 := Lib.hid r0_; have r1 := Lib.hid r1_; have r2 := Lib.hid r2_; have r3 := Lib.hid r3_; have r4 := Lib.hid r4_; have r5 := Lib.hid r5_; have r6 := Lib.hid r6_; have r7 := Lib.hid r7_; have r8 := Lib.hid r8_; have r9 := Lib.hid r9_; clear e0 r0_ r1_ r2_ r3_ r4_ r5_ r6_ r7_ r8_ r9_)
    | (go_at_call 25; (with_reducible refine (r0.out _ h0.out).mono ?_); rintro e y0 ⟨ob0, rfl, d0⟩)
    | (go_at_call 23; (with_reducible refine (d0.out).mono ?_); rintro e x1 ⟨rfl, h1⟩)
    | (go_at_call 25; (with_reducible refine (r1.out _ h1.out).mono ?_); rintro e y1 ⟨ob1, rfl, d1⟩)
    | (go_at_call 23; (with_reducible refine (d1.out).mono ?_); rintro e x2 ⟨rfl, h2⟩)
    | (go_at_call 27; (with_reducible refine (r2.out _ h2.out).mono ?_); rintro e y2 ⟨ob2, rfl, d2⟩)
    | (go_at_call 23; (with_reducible refine (d2.out).mono ?_); rintro e x3 ⟨rfl, h3⟩)
    | (go_at_call 36; (with_reducible refine (r3.out _ h3.out).mono ?_); rintro e y3 ⟨ob3, rfl, d3⟩)
    | (go_at_call 23; (with_reducible refine (d3.out).mono ?_); rintro e x4 ⟨rfl, h4⟩)
    | (go_at_call 24; (with_reducible refine (r4.out _ h4.out).mono ?_); rintro e y4 ⟨ob4, rfl, d4⟩)
    | (go_at_call 23; (with_reducible refine (d4.out).mono ?_); rintro e x5 ⟨rfl, h5⟩)
    | (go_at_call 24; (with_reducible refine (r5.out _ h5.out).mono ?_); rintro e y5 ⟨ob5, rfl, d5⟩)
    | (go_at_call 23; (with_reducible refine (d5.out).mono ?_); rintro e x6 ⟨rfl, h6⟩)
    | (go_at_call 25; (with_reducible refine (r6.out _ h6.out).mono ?_); rintro e y6 ⟨ob6, rfl, d6⟩)
    | (go_at_call 23; (with_reducible refine (d6.out).mono ?_); rintro e x7 ⟨rfl, h7⟩)
    | (go_at_call 26; (with_reducible refine (r7.out _ h7.out).mono ?_); rintro e y7 ⟨ob7, rfl, d7⟩)
    | (go_at_call 23; (with_reducible refine (d7.out).mono ?_); rintro e x8 ⟨rfl, h8⟩)
    | (go_at_call 29; (with_reducible refine (r8.out _ h8.out).mono ?_); rintro e y8 ⟨ob8, rfl, d8⟩)
    | (go_at_call 23; (with_reducible refine (d8.out).mono ?_); rintro e x9 ⟨rfl, h9⟩)
    | (go_at_call 29; (with_reducible refine (r9.out _ h9.out).mono ?_); rintro e y9 ⟨ob9, rfl, d9⟩)
    | (go_at_call 23; (with_reducible refine (d9.out).mono ?_); rintro e x10 ⟨rfl, h10⟩))
  go_ret
  exact ⟨rfl, h10.out.only⟩
end Go.Proofs.Ytmkcmncbiancgaa.Po
