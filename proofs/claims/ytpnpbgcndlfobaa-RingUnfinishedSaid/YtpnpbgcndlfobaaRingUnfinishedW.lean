/- RingUnfinished answers true for all numbers, and turns nothing that there was: the walk. -/
import Derived.Test.YtpnpbgcndlfobaaRingXm
namespace Go.Proofs.Ytpnpbgcndlfobaa
open Go.RowKit

/-- n steps, and the operation isn't over. -/
inductive Steps (b c : Nat) : Nat → List Int → OS → List Int → OS → Prop
  | zero {L : List Int} {s : OS} : Steps b c 0 L s L s
  | step {n : Nat} {L L' : List Int} {s s' : OS} (hn : Nums b L) (h0 : s.isO = false) (h : (stepS b c L s).isO = false) (hr : Steps b c n (stepL b c L s) (stepS b c L s) L' s') : Steps b c (n + 1) L s L' s'

/-- What happens, in a ring of c slots, to a Put of f that has made m steps, as others come and go. -/
structure Unf (c m : Nat) (f g : Int) (LA LB LC LD LE LF : List Int) (sp : OS) : Prop where
  a : Steps 0 c m (zeros (2 + 2 * c)) (.put0 f) LA sp
  r1 : Runs 0 c 5 LA (.put0 g) LB (.over 1 0 1)
  r2 : Runs 0 c 2 LB .close0 LC (.over 1 0 0)
  r3 : Runs 0 c 3 LC .drain0 LC (.over 4 0 0)
  r4 : Runs 0 c 2 LC .take0 LC (.over 4 0 0)
  r5 : Runs 0 c 2 LC .look0 LC (.over 4 0 0)
  r6 : Runs 0 c (5 - m) LC sp LD (.over 1 0 0)
  r7 : Runs 0 c 2 LD .look0 LD (.over 1 0 0)
  r8 : Runs 0 c 6 LD .drain0 LE (.over 1 f 0)
  r9 : Runs 0 c 6 LE .drain0 LF (.over 1 g 0)
  r10 : Runs 0 c 2 LF .drain0 LF (.over 5 0 0)

/-- A ring, and one operation that goes on. -/
structure Lp (w0 w : World) (rg hb rb b c : Nat) (L : List Int) (t : Int) (pb : Nat) (sp : OS) : Prop where
  lw : Lw w0 w rg hb rb b c L t
  op : Op1 w0 w pb rg hb rb sp
section
variable {w0 w w' : World} {ob rg hb rb b c n pb : Nat} {L L' : List Int} {t t' : Int} {s s' sp : OS}
theorem Lp.other (h : Lp w0 w rg hb rb b c L t pb sp) (l : Lw w0 w' rg hb rb b c L' t') (o : Only (OB hb rb ob) w w') (ne : pb ≠ ob) : Lp w0 w' rg hb rb b c L' t' pb sp := ⟨l, h.op.other o ne⟩
theorem Lp.done (h : Lp w0 w rg hb rb b c L t pb sp) (q : Op1 w0 w ob rg hb rb s) (ne : pb ≠ ob) (hr : Runs b c n L s L' s') (hn : n < 100) (t2 : t + (n : Int) < 4611686018427000000) :
    Calls Try.prog 28 #[.pointer (some ⟨ob, 0, none⟩)] w fun e w' =>
      e = .returned (.tuple #[.int .i64 s'.o, .int .u64 s'.x, .int .i64 (n : Int)]) ∧ Lp w0 w' rg hb rb b c L' (t + (n : Int)) pb sp := by
  refine (h.lw.done q hr hn t2).mono ?_
  rintro e w1 ⟨rfl, l, _, o⟩
  exact ⟨rfl, h.other l o ne⟩
theorem Lp.put (h : Lp w0 w rg hb rb b c L t pb sp) (v : Int) :
    Calls Try.prog 29 #[.pointer (some ⟨rg, 0, none⟩), .int .u64 v] w fun e w' => e = .returned (.pointer (some ⟨w.heap.size, 0, none⟩)) ∧ Lp w0 w' rg hb rb b c L t pb sp ∧ Op1 w0 w' w.heap.size rg hb rb (.put0 v) ∧ pb ≠ w.heap.size := by
  refine (h.lw.put v).mono ?_
  rintro e w1 ⟨rfl, l, q, o, _⟩
  exact ⟨rfl, ⟨l, h.op.nil o⟩, q, by have := h.op.op.lt; omega⟩
theorem Lp.take (h : Lp w0 w rg hb rb b c L t pb sp) :
    Calls Try.prog 33 #[.pointer (some ⟨rg, 0, none⟩)] w fun e w' => e = .returned (.pointer (some ⟨w.heap.size, 0, none⟩)) ∧ Lp w0 w' rg hb rb b c L t pb sp ∧ Op1 w0 w' w.heap.size rg hb rb .take0 ∧ pb ≠ w.heap.size := by
  refine (h.lw.take).mono ?_
  rintro e w1 ⟨rfl, l, q, o, _⟩
  exact ⟨rfl, ⟨l, h.op.nil o⟩, q, by have := h.op.op.lt; omega⟩
theorem Lp.drain (h : Lp w0 w rg hb rb b c L t pb sp) :
    Calls Try.prog 32 #[.pointer (some ⟨rg, 0, none⟩)] w fun e w' => e = .returned (.pointer (some ⟨w.heap.size, 0, none⟩)) ∧ Lp w0 w' rg hb rb b c L t pb sp ∧ Op1 w0 w' w.heap.size rg hb rb .drain0 ∧ pb ≠ w.heap.size := by
  refine (h.lw.drain).mono ?_
  rintro e w1 ⟨rfl, l, q, o, _⟩
  exact ⟨rfl, ⟨l, h.op.nil o⟩, q, by have := h.op.op.lt; omega⟩
theorem Lp.close (h : Lp w0 w rg hb rb b c L t pb sp) :
    Calls Try.prog 31 #[.pointer (some ⟨rg, 0, none⟩)] w fun e w' => e = .returned (.pointer (some ⟨w.heap.size, 0, none⟩)) ∧ Lp w0 w' rg hb rb b c L t pb sp ∧ Op1 w0 w' w.heap.size rg hb rb .close0 ∧ pb ≠ w.heap.size := by
  refine (h.lw.close).mono ?_
  rintro e w1 ⟨rfl, l, q, o, _⟩
  exact ⟨rfl, ⟨l, h.op.nil o⟩, q, by have := h.op.op.lt; omega⟩
theorem Lp.look (h : Lp w0 w rg hb rb b c L t pb sp) :
    Calls Try.prog 34 #[.pointer (some ⟨rg, 0, none⟩)] w fun e w' => e = .returned (.pointer (some ⟨w.heap.size, 0, none⟩)) ∧ Lp w0 w' rg hb rb b c L t pb sp ∧ Op1 w0 w' w.heap.size rg hb rb .look0 ∧ pb ≠ w.heap.size := by
  refine (h.lw.look).mono ?_
  rintro e w1 ⟨rfl, l, q, o, _⟩
  exact ⟨rfl, ⟨l, h.op.nil o⟩, q, by have := h.op.op.lt; omega⟩
end

set_option maxRecDepth 100000 in
set_option maxHeartbeats 8000000 in
theorem unf_walk (sl st : Int) (f g : Int) (c m : Nat) (LA LB LC LD LE LF : List Int) (sp : OS) (hc : 2 ≤ c ∧ c ≤ 7) (hm : 3 ≤ m ∧ m ≤ 4) (e1 : 2 + sl % 6 = (c : Int)) (e2 : 3 + st % 2 = (m : Int)) (hsl : 0 ≤ sl ∧ sl < 256) (hst : 0 ≤ st ∧ st < 256) (U : Unf c m f g LA LB LC LD LE LF sp) (w : World) :
    Calls Try.prog 8 #[.int .u8 sl, .int .u64 f, .int .u64 g, .int .u8 st] w fun e w' => e = .returned (.bool true) ∧ Below w.heap.size w w' := by
  have md : Hid (∀ (w : World) (x : Int), x = (c : Int) → Calls Try.prog 30 #[.int .i64 x] w fun e w' => ∃ rg, e = .returned (.pointer (some ⟨rg, 0, none⟩)) ∧ Lw w w' rg (w.heap.size + 1) w.heap.size 0 c (zeros (2 + 2 * c)) (2 + 2 * (c : Int))) :=
    Lib.hid (fun w x hx => by rw [hx]; exact made_any c w (by omega) (by omega))
  have pp := Lib.hid (fun (w0 w1 : World) (rg hb rb : Nat) (h : Lw w0 w1 rg hb rb 0 c (zeros (2 + 2 * c)) (2 + 2 * (c : Int))) => h.put f)
  have hU := Lib.hid U
  obtain ⟨x1, x2⟩ := hsl
  obtain ⟨x3, x4⟩ := hst
  have e1' := Lib.hid e1
  have e2' := Lib.hid e2
  have hm' := Lib.hid hm
  have hc' := Lib.hid hc
  clear U e1 e2 hc hm
  go_enter Try.func8, Try.ntmps8
  go_wp2_with (first
    | (go_at_call 10; (with_reducible refine (alive_any _).mono ?_); rintro e w1 ⟨rfl, o1⟩)
    | (go_at_call 30; (with_reducible refine (md.out _ _ e1'.out).mono ?_); rintro e w2 ⟨rg, rfl, l2⟩)
    | (go_at_call 29; (with_reducible refine (pp.out _ _ _ _ _ l2).mono ?_); rintro e w3 ⟨rfl, l3, p3, o3, z3⟩))
  have P0 := Lib.hid (Lp.mk l3 p3)
  clear l2 l3 p3 o3 z3
  have ow := Lib.hid o1
  clear o1
  generalize w2.heap.size = pb at *
  generalize w1.heap.size = hb1 at *
  go_loopw [11] (fun s3 wr => ∃ k : Nat, k ≤ m ∧ s3 = .int .i64 (k : Int) ∧ Hid (∃ L1 s1, Steps 0 c (m - k) L1 s1 LA sp ∧ Lp w1 wr rg (hb1 + 1) hb1 0 c L1 (2 + 2 * (c : Int) + (k : Int)) pb s1))
    (fun s3 _ => m - (intOf s3).toNat)
  case atStart => exact ⟨0, Nat.zero_le _, rfl, Lib.hid ⟨_, _, hU.out.a, by simpa using P0.out⟩⟩
  case round =>
    obtain ⟨k, hk, rfl, hh⟩ := hrel
    obtain ⟨L1, s1, r1, Q1⟩ := hh.out
    generalize hm2 : m - k = m2 at r1
    have hm2' := Lib.hid hm2
    clear hm2
    cases r1 with
    | @step m3 _ _ _ _ hnum hz h0 r2 =>
      have hki : (k : Int) < 3 + st % 2 := by have := hm2'.out; have := e2'.out; omega
      have sc := Lib.hid (Q1.lw.step Q1.op hnum (by have := hm'.out; have := hc'.out; omega))
      rw [h0] at sc
      have e3 : Hid (stepT s1 (2 + 2 * (c : Int) + (k : Int)) = 2 + 2 * (c : Int) + ((k + 1 : Nat) : Int)) := Lib.hid (by unfold stepT; rw [hz]; simp; omega)
      rw [e3.out] at sc
      have r2' := Lib.hid r2
      clear Q1 hnum h0 hz r2 hk
      go_wp2_with (go_at_call 18; (with_reducible refine (sc.out).mono ?_); rintro e w4 ⟨rfl, l4, p4, o4⟩)
      have Q4 := Lib.hid (Lp.mk l4 p4)
      clear l4 p4 o4
      go_roundw
      case rel => exact ⟨k + 1, by have := hm2'.out; omega, by go_num, Lib.hid ⟨_, _, (show m - (k + 1) = m3 by have := hm2'.out; omega) ▸ r2'.out, Q4.out⟩⟩
      case measure => have := hm2'.out; simp [intOf]; omega
    | zero =>
      have hkm : k = m := by have := hm2'.out; omega
      have hki : ¬ ((k : Int) < 3 + st % 2) := by have := e2'.out; omega
      have H0 := Lib.hid Q1
      subst hkm
      clear hk Q1 hh P0
      have ht0 : Hid (2 + 2 * (c : Int) + (k : Int) ≤ 100) := Lib.hid (by have := hm'.out; have := hc'.out; omega)
      generalize 2 + 2 * (c : Int) + (k : Int) = t0 at H0 ht0
      have ap0 := Lib.hid (fun (w9 : World) (h : Lp w1 w9 rg (hb1 + 1) hb1 0 c LA t0 pb sp) => h.put g)
      have ad0 := Lib.hid (fun (w9 : World) (ob : Nat) (h : Lp w1 w9 rg (hb1 + 1) hb1 0 c LA t0 pb sp) (q : Op1 w1 w9 ob rg (hb1 + 1) hb1 _) (ne : pb ≠ ob) => (h.done q ne hU.out.r1 (by decide) (by have := ht0.out; omega)).mono (R' := fun e w' => e = .returned (.tuple #[.int .i64 1, .int .u64 0, .int .i64 5]) ∧ Lp w1 w' rg (hb1 + 1) hb1 0 c LB (t0 + 5) pb sp) (fun e w' hh => hh))
      have ap1 := Lib.hid (fun (w9 : World) (h : Lp w1 w9 rg (hb1 + 1) hb1 0 c LB (t0 + 5) pb sp) => h.close)
      have ad1 := Lib.hid (fun (w9 : World) (ob : Nat) (h : Lp w1 w9 rg (hb1 + 1) hb1 0 c LB (t0 + 5) pb sp) (q : Op1 w1 w9 ob rg (hb1 + 1) hb1 _) (ne : pb ≠ ob) => (h.done q ne hU.out.r2 (by decide) (by have := ht0.out; omega)).mono (R' := fun e w' => e = .returned (.tuple #[.int .i64 1, .int .u64 0, .int .i64 2]) ∧ Lp w1 w' rg (hb1 + 1) hb1 0 c LC ((t0 + 5) + 2) pb sp) (fun e w' hh => hh))
      have ap2 := Lib.hid (fun (w9 : World) (h : Lp w1 w9 rg (hb1 + 1) hb1 0 c LC ((t0 + 5) + 2) pb sp) => h.drain)
      have ad2 := Lib.hid (fun (w9 : World) (ob : Nat) (h : Lp w1 w9 rg (hb1 + 1) hb1 0 c LC ((t0 + 5) + 2) pb sp) (q : Op1 w1 w9 ob rg (hb1 + 1) hb1 _) (ne : pb ≠ ob) => (h.done q ne hU.out.r3 (by decide) (by have := ht0.out; omega)).mono (R' := fun e w' => e = .returned (.tuple #[.int .i64 4, .int .u64 0, .int .i64 3]) ∧ Lp w1 w' rg (hb1 + 1) hb1 0 c LC (((t0 + 5) + 2) + 3) pb sp) (fun e w' hh => hh))
      have ap3 := Lib.hid (fun (w9 : World) (h : Lp w1 w9 rg (hb1 + 1) hb1 0 c LC (((t0 + 5) + 2) + 3) pb sp) => h.take)
      have ad3 := Lib.hid (fun (w9 : World) (ob : Nat) (h : Lp w1 w9 rg (hb1 + 1) hb1 0 c LC (((t0 + 5) + 2) + 3) pb sp) (q : Op1 w1 w9 ob rg (hb1 + 1) hb1 _) (ne : pb ≠ ob) => (h.done q ne hU.out.r4 (by decide) (by have := ht0.out; omega)).mono (R' := fun e w' => e = .returned (.tuple #[.int .i64 4, .int .u64 0, .int .i64 2]) ∧ Lp w1 w' rg (hb1 + 1) hb1 0 c LC ((((t0 + 5) + 2) + 3) + 2) pb sp) (fun e w' hh => hh))
      have ap4 := Lib.hid (fun (w9 : World) (h : Lp w1 w9 rg (hb1 + 1) hb1 0 c LC ((((t0 + 5) + 2) + 3) + 2) pb sp) => h.look)
      have ad4 := Lib.hid (fun (w9 : World) (ob : Nat) (h : Lp w1 w9 rg (hb1 + 1) hb1 0 c LC ((((t0 + 5) + 2) + 3) + 2) pb sp) (q : Op1 w1 w9 ob rg (hb1 + 1) hb1 _) (ne : pb ≠ ob) => (h.done q ne hU.out.r5 (by decide) (by have := ht0.out; omega)).mono (R' := fun e w' => e = .returned (.tuple #[.int .i64 4, .int .u64 0, .int .i64 2]) ∧ Lp w1 w' rg (hb1 + 1) hb1 0 c LC (((((t0 + 5) + 2) + 3) + 2) + 2) pb sp) (fun e w' hh => hh))
      go_wp2_with (first
        | (go_at_call 29; (with_reducible refine (ap0.out _ H0.out).mono ?_); rintro e ya0 ⟨rfl, ja0, qa0, nea0⟩)
        | (go_at_call 28; (with_reducible refine (ad0.out _ _ ja0 qa0 nea0).mono ?_); rintro e xa0 ⟨rfl, H1⟩)
        | (go_at_call 31; (with_reducible refine (ap1.out _ H1).mono ?_); rintro e ya1 ⟨rfl, ja1, qa1, nea1⟩)
        | (go_at_call 28; (with_reducible refine (ad1.out _ _ ja1 qa1 nea1).mono ?_); rintro e xa1 ⟨rfl, H2⟩)
        | (go_at_call 32; (with_reducible refine (ap2.out _ H2).mono ?_); rintro e ya2 ⟨rfl, ja2, qa2, nea2⟩)
        | (go_at_call 28; (with_reducible refine (ad2.out _ _ ja2 qa2 nea2).mono ?_); rintro e xa2 ⟨rfl, H3⟩)
        | (go_at_call 33; (with_reducible refine (ap3.out _ H3).mono ?_); rintro e ya3 ⟨rfl, ja3, qa3, nea3⟩)
        | (go_at_call 28; (with_reducible refine (ad3.out _ _ ja3 qa3 nea3).mono ?_); rintro e xa3 ⟨rfl, H4⟩)
        | (go_at_call 34; (with_reducible refine (ap4.out _ H4).mono ?_); rintro e ya4 ⟨rfl, ja4, qa4, nea4⟩)
        | (go_at_call 28; (with_reducible refine (ad4.out _ _ ja4 qa4 nea4).mono ?_); rintro e xa4 ⟨rfl, H5⟩))
      have G0 := Lib.hid H5
      clear H0 H1 H2 H3 H4 H5 ap0 ad0 ap1 ad1 ap2 ad2 ap3 ad3 ap4 ad4 ja0 qa0 nea0 ja1 qa1 nea1 ja2 qa2 nea2 ja3 qa3 nea3 ja4 qa4 nea4 hki
      generalize xa4 = wA at G0 ⊢
      have ht1 : Hid ((((((t0 + 5) + 2) + 3) + 2) + 2) ≤ 200) := Lib.hid (by have := ht0.out; omega)
      generalize (((((t0 + 5) + 2) + 3) + 2) + 2) = t1 at G0 ht1
      go_loopw [27] (fun s3 wr => ∃ i : Nat, i ≤ 5 - k ∧ s3 = .int .i64 (i : Int) ∧ Hid (∃ L1 s1, Runs 0 c (5 - k - i) L1 s1 LD (.over 1 0 0) ∧ Lp w1 wr rg (hb1 + 1) hb1 0 c L1 (t1 + (i : Int)) pb s1))
        (fun s3 _ => 5 - k - (intOf s3).toNat)
      case atStart => exact ⟨0, Nat.zero_le _, rfl, Lib.hid ⟨_, _, hU.out.r6, by simpa using G0.out⟩⟩
      case round =>
        obtain ⟨i, hi, rfl, hh⟩ := hrel
        obtain ⟨L1, s1, r1, Q1⟩ := hh.out
        generalize hm2 : 5 - k - i = m2 at r1
        have hm2' := Lib.hid hm2
        clear hm2
        cases r1 with
        | @step m3 _ _ _ _ hz hnum r2 =>
          have hi2 : (i : Int) < 2 := by have := hm2'.out; have := hm'.out; omega
          have ov := Lib.hid (overO Q1.op.op Q1.op.tk)
          rw [hz] at ov
          have sc := Lib.hid (Q1.lw.step Q1.op hnum (by have := hm'.out; have := ht1.out; omega))
          have e3 : Hid (stepT s1 (t1 + (i : Int)) = t1 + ((i + 1 : Nat) : Int)) := Lib.hid (by unfold stepT; rw [hz]; simp; omega)
          rw [e3.out] at sc
          have r2' := Lib.hid r2
          clear Q1 hnum hz r2 hi
          go_wp2_with (first
            | (go_at_call 15; (with_reducible refine (ov.out).mono ?_); rintro e w3 ⟨rfl, rfl⟩)
            | (go_at_call 18; (with_reducible refine (sc.out).mono ?_); rintro e w4 ⟨rfl, l4, p4, o4⟩))
          have Q4 := Lib.hid (Lp.mk l4 p4)
          clear l4 p4 o4
          go_roundw
          case rel => exact ⟨i + 1, by have := hm2'.out; omega, by go_num, Lib.hid ⟨_, _, (show 5 - k - (i + 1) = m3 by have := hm2'.out; omega) ▸ r2'.out, Q4.out⟩⟩
          case measure => have := hm2'.out; simp [intOf]; omega
        | over hz =>
          have ov := Lib.hid (overO Q1.op.op Q1.op.tk)
          rw [hz] at ov
          have K0 := Lib.hid Q1
          have ht2 : Hid (t1 + (i : Int) ≤ 300) := Lib.hid (by have := ht1.out; have := hm2'.out; omega)
          generalize t1 + (i : Int) = t2 at K0 ht2
          have oc : Hid (∀ w', Lp w1 w' rg (hb1 + 1) hb1 0 c LF (t2 + 2 + 6 + 6 + 2) pb (.over 1 0 0) → Calls Try.prog 35 #[.pointer (some ⟨pb, 0, none⟩)] w' fun e w'' => e = .returned (.int .i64 1) ∧ w' = w'') := Lib.hid (fun w' h => outcomeO h.op.op)
          have tc : Hid (∀ w', Lp w1 w' rg (hb1 + 1) hb1 0 c LF (t2 + 2 + 6 + 6 + 2) pb (.over 1 0 0) → Calls Try.prog 36 #[.pointer (some ⟨pb, 0, none⟩)] w' fun e w'' => e = .returned (.int .u64 0) ∧ w' = w'') := Lib.hid (fun w' h => ticketO h.op.op)
          have hi3 : (i : Int) ≤ 2 := by have := hm2'.out; have := hm'.out; omega
          clear Q1 hh hi hz
          have bp0 := Lib.hid (fun (w9 : World) (h : Lp w1 w9 rg (hb1 + 1) hb1 0 c LD t2 pb (.over 1 0 0)) => h.look)
          have bd0 := Lib.hid (fun (w9 : World) (ob : Nat) (h : Lp w1 w9 rg (hb1 + 1) hb1 0 c LD t2 pb (.over 1 0 0)) (q : Op1 w1 w9 ob rg (hb1 + 1) hb1 _) (ne : pb ≠ ob) => (h.done q ne hU.out.r7 (by decide) (by have := ht2.out; omega)).mono (R' := fun e w' => e = .returned (.tuple #[.int .i64 1, .int .u64 0, .int .i64 2]) ∧ Lp w1 w' rg (hb1 + 1) hb1 0 c LD (t2 + 2) pb (.over 1 0 0)) (fun e w' hh => hh))
          have bp1 := Lib.hid (fun (w9 : World) (h : Lp w1 w9 rg (hb1 + 1) hb1 0 c LD (t2 + 2) pb (.over 1 0 0)) => h.drain)
          have bd1 := Lib.hid (fun (w9 : World) (ob : Nat) (h : Lp w1 w9 rg (hb1 + 1) hb1 0 c LD (t2 + 2) pb (.over 1 0 0)) (q : Op1 w1 w9 ob rg (hb1 + 1) hb1 _) (ne : pb ≠ ob) => (h.done q ne hU.out.r8 (by decide) (by have := ht2.out; omega)).mono (R' := fun e w' => e = .returned (.tuple #[.int .i64 1, .int .u64 f, .int .i64 6]) ∧ Lp w1 w' rg (hb1 + 1) hb1 0 c LE ((t2 + 2) + 6) pb (.over 1 0 0)) (fun e w' hh => hh))
          have bp2 := Lib.hid (fun (w9 : World) (h : Lp w1 w9 rg (hb1 + 1) hb1 0 c LE ((t2 + 2) + 6) pb (.over 1 0 0)) => h.drain)
          have bd2 := Lib.hid (fun (w9 : World) (ob : Nat) (h : Lp w1 w9 rg (hb1 + 1) hb1 0 c LE ((t2 + 2) + 6) pb (.over 1 0 0)) (q : Op1 w1 w9 ob rg (hb1 + 1) hb1 _) (ne : pb ≠ ob) => (h.done q ne hU.out.r9 (by decide) (by have := ht2.out; omega)).mono (R' := fun e w' => e = .returned (.tuple #[.int .i64 1, .int .u64 g, .int .i64 6]) ∧ Lp w1 w' rg (hb1 + 1) hb1 0 c LF (((t2 + 2) + 6) + 6) pb (.over 1 0 0)) (fun e w' hh => hh))
          have bp3 := Lib.hid (fun (w9 : World) (h : Lp w1 w9 rg (hb1 + 1) hb1 0 c LF (((t2 + 2) + 6) + 6) pb (.over 1 0 0)) => h.drain)
          have bd3 := Lib.hid (fun (w9 : World) (ob : Nat) (h : Lp w1 w9 rg (hb1 + 1) hb1 0 c LF (((t2 + 2) + 6) + 6) pb (.over 1 0 0)) (q : Op1 w1 w9 ob rg (hb1 + 1) hb1 _) (ne : pb ≠ ob) => (h.done q ne hU.out.r10 (by decide) (by have := ht2.out; omega)).mono (R' := fun e w' => e = .returned (.tuple #[.int .i64 5, .int .u64 0, .int .i64 2]) ∧ Lp w1 w' rg (hb1 + 1) hb1 0 c LF ((((t2 + 2) + 6) + 6) + 2) pb (.over 1 0 0)) (fun e w' hh => hh))
          go_wp2_with (first
            | (go_at_call 34; (with_reducible refine (bp0.out _ K0.out).mono ?_); rintro e yb0 ⟨rfl, jb0, qb0, neb0⟩)
            | (go_at_call 28; (with_reducible refine (bd0.out _ _ jb0 qb0 neb0).mono ?_); rintro e xb0 ⟨rfl, K1⟩)
            | (go_at_call 32; (with_reducible refine (bp1.out _ K1).mono ?_); rintro e yb1 ⟨rfl, jb1, qb1, neb1⟩)
            | (go_at_call 28; (with_reducible refine (bd1.out _ _ jb1 qb1 neb1).mono ?_); rintro e xb1 ⟨rfl, K2⟩)
            | (go_at_call 32; (with_reducible refine (bp2.out _ K2).mono ?_); rintro e yb2 ⟨rfl, jb2, qb2, neb2⟩)
            | (go_at_call 28; (with_reducible refine (bd2.out _ _ jb2 qb2 neb2).mono ?_); rintro e xb2 ⟨rfl, K3⟩)
            | (go_at_call 32; (with_reducible refine (bp3.out _ K3).mono ?_); rintro e yb3 ⟨rfl, jb3, qb3, neb3⟩)
            | (go_at_call 28; (with_reducible refine (bd3.out _ _ jb3 qb3 neb3).mono ?_); rintro e xb3 ⟨rfl, K4⟩)
            | (go_at_call 15; (with_reducible refine (ov.out).mono ?_); rintro e w3 ⟨rfl, rfl⟩)
            | (go_at_call 35; (with_reducible refine (oc.out _ K4).mono ?_); rintro e w3 ⟨rfl, rfl⟩)
            | (go_at_call 36; (with_reducible refine (tc.out _ K4).mono ?_); rintro e w3 ⟨rfl, rfl⟩))
          all_goals go_ret
          all_goals exact ⟨rfl, (ow.out.trans K4.lw.only).below (Nat.le_refl _) (fun _ h => h.elim)⟩
end Go.Proofs.Ytpnpbgcndlfobaa
