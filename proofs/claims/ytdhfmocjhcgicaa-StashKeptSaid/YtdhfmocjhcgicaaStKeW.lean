/- StashKept: the walk. -/
import Derived.Test.YtdhfmocjhcgicaaStSuW
namespace Go.Proofs.Ytdhfmocjhcgicaa.St
open Go.RowKit Go.Proofs.Ytdhfmocjhcgicaa

theorem uset {w : World} {g n c : Nat} {Z : List Int} (h : Row w (.slice (some ⟨g, 0, none⟩) n c) Z) (i : Nat) (x : Int) : Row (w.setCell ⟨g, i, none⟩ (.int .u64 x)) (.slice (some ⟨g, 0, none⟩) n c) (Z.set i x) := by
  unfold Row at h ⊢
  rcases h.2 with ⟨e, _⟩ | ⟨g', cap, cur, hv, hg0, hg, hnc, hcm, hcs, ht⟩
  · cases e
  · simp only [Value.slice.injEq, Option.some.injEq, Addr.mk.injEq] at hv
    obtain ⟨⟨rfl, _⟩, hn, rfl⟩ := hv
    rw [List.length_set]
    refine ⟨by simp [us], .inr ⟨g, c, cur.setIfInBounds i (.int .u64 x), by rw [hn], hg0, heap_setCell_self _ hg, hnc, hcm, by simpa using hcs, ?_⟩⟩
    rw [Array.toList_setIfInBounds, List.take_set, ht]
    simp [us]
theorem ust {w : World} {g n c : Nat} {Z : List Int} (h : Row w (.slice (some ⟨g, 0, none⟩) n c) Z) (i : Nat) : w.frozen? ⟨g, i, none⟩ = false ∧ g < w.heap.size := by
  rcases h.2 with ⟨e, _⟩ | ⟨g', cap, cur, hv, _, hg, _⟩
  · cases e
  · simp only [Value.slice.injEq, Option.some.injEq, Addr.mk.injEq] at hv
    obtain ⟨⟨rfl, _⟩, hn, rfl⟩ := hv
    exact ⟨by simp [World.frozen?, hg], lt_of_block hg⟩

/-- World w holds the line at hb and the four rows that it answered; their blocks lie one behind the other. -/
structure Kp (w0 w : World) (S : Nat → Prop) (hb k n0 n1 n2 n3 : Nat) (va vb vc vd : Value) (A F Za Zb : List Int) : Prop where
  line : At w S hb k A F
  low : ∀ q, S q → q < n0
  ra : Row w va Za
  a1 : ∀ g, some g = va.ownBlock → n0 ≤ g ∧ g < n1
  rb : Row w vb Zb
  b1 : ∀ g, some g = vb.ownBlock → n1 ≤ g ∧ g < n2
  rc : Row w vc A
  c1 : ∀ g, some g = vc.ownBlock → n2 ≤ g ∧ g < n3
  rd : Row w vd F
  d1 : ∀ g, some g = vd.ownBlock → n3 ≤ g
  ord : n0 ≤ n1 ∧ n1 ≤ n2 ∧ n2 ≤ n3
  only : Only Nil w0 w
  low0 : w0.heap.size ≤ n0
  new : ∀ q, S q → w0.heap.size ≤ q
section
variable {w0 w w' : World} {S : Nat → Prop} {hb k n0 n1 n2 n3 : Nat} {va vb vc vd : Value} {A F Za Zb : List Int}
theorem Kp.nil (h : Kp w0 w S hb k n0 n1 n2 n3 va vb vc vd A F Za Zb) (o : Only Nil w w') : Kp w0 w' S hb k n0 n1 n2 n3 va vb vc vd A F Za Zb :=
  ⟨h.line.nil o, h.low, h.ra.nil o, h.a1, h.rb.nil o, h.b1, h.rc.nil o, h.c1, h.rd.nil o, h.d1, h.ord, h.only.trans o, h.low0, h.new⟩
theorem Kp.setA {g n c : Nat} (h : Kp w0 w S hb k n0 n1 n2 n3 (.slice (some ⟨g, 0, none⟩) n c) vb vc vd A F Za Zb) (i : Nat) (x : Int) :
    Kp w0 (w.setCell ⟨g, i, none⟩ (.int .u64 x)) S hb k n0 n1 n2 n3 (.slice (some ⟨g, 0, none⟩) n c) vb vc vd A F (Za.set i x) Zb := by
  have o : Only (fun q => q = g) w (w.setCell ⟨g, i, none⟩ (.int .u64 x)) := (Only.refl (fun q => q = g) w).setCell (p := ⟨g, i, none⟩) rfl _
  have hg := h.a1 g rfl
  have := h.ord
  exact ⟨h.line.keep o (fun q hq e => by have := h.low q hq; omega), h.low, uset h.ra i x, h.a1, h.rb.keep o (fun q hq e => by have := h.b1 q hq; omega), h.b1, h.rc.keep o (fun q hq e => by have := h.c1 q hq; omega), h.c1, h.rd.keep o (fun q hq e => by have := h.d1 q hq; omega), h.d1, h.ord, h.only.then o (fun q hq hlt => by have := h.low0; omega), h.low0, h.new⟩
theorem Kp.setB {g n c : Nat} (h : Kp w0 w S hb k n0 n1 n2 n3 va (.slice (some ⟨g, 0, none⟩) n c) vc vd A F Za Zb) (i : Nat) (x : Int) :
    Kp w0 (w.setCell ⟨g, i, none⟩ (.int .u64 x)) S hb k n0 n1 n2 n3 va (.slice (some ⟨g, 0, none⟩) n c) vc vd A F Za (Zb.set i x) := by
  have o : Only (fun q => q = g) w (w.setCell ⟨g, i, none⟩ (.int .u64 x)) := (Only.refl (fun q => q = g) w).setCell (p := ⟨g, i, none⟩) rfl _
  have hg := h.b1 g rfl
  have := h.ord
  exact ⟨h.line.keep o (fun q hq e => by have := h.low q hq; omega), h.low, h.ra.keep o (fun q hq e => by have := h.a1 q hq; omega), h.a1, uset h.rb i x, h.b1, h.rc.keep o (fun q hq e => by have := h.c1 q hq; omega), h.c1, h.rd.keep o (fun q hq e => by have := h.d1 q hq; omega), h.d1, h.ord, h.only.then o (fun q hq hlt => by have := h.low0; omega), h.low0, h.new⟩
/-- .. and what both appends leave. -/
structure Kq (w0 w : World) (S : Nat → Prop) (hb k : Nat) (vc vd : Value) (A F : List Int) : Prop where
  line : At w S hb k A F
  rc : Row w vc A
  c1 : ∀ g, some g = vc.ownBlock → ¬ S g
  rd : Row w vd F
  d1 : ∀ g, some g = vd.ownBlock → ¬ S g
  only : Only Nil w0 w
  new : ∀ q, S q → w0.heap.size ≤ q
theorem Kp.appA {a : Option Addr} {n c : Nat} (h : Kp w0 w S hb k n0 n1 n2 n3 (.slice a n c) vb vc vd A F Za Zb) (o : Only (RowOf a) w w') :
    Kq w0 w' S hb k vc vd A F ∧ Row w' vb Zb ∧ ∀ g, some g = vb.ownBlock → ¬ S g ∧ some g ≠ vc.ownBlock ∧ some g ≠ vd.ownBlock ∧ w0.heap.size ≤ g := by
  have := h.ord
  have ro : ∀ q, RowOf a q → n0 ≤ q ∧ q < n1 := by rintro q ⟨y, rfl, rfl⟩; exact h.a1 _ rfl
  refine ⟨⟨h.line.keep o (fun q hq e => by have := h.low q hq; have := ro q e; omega), h.rc.keep o (fun q hq e => by have := h.c1 q hq; have := ro q e; omega), fun g hg s => by have := h.c1 g hg; have := h.low g s; omega, h.rd.keep o (fun q hq e => by have := h.d1 q hq; have := ro q e; omega), fun g hg s => by have := h.d1 g hg; have := h.low g s; omega, h.only.then o (fun q hq hlt => by have := h.low0; have := ro q hq; omega), h.new⟩,
    h.rb.keep o (fun q hq e => by have := h.b1 q hq; have := ro q e; omega), fun g hg => ⟨fun s => by have := h.b1 g hg; have := h.low g s; omega, fun e => by have := h.b1 g hg; have := h.c1 g e; omega, fun e => by have := h.b1 g hg; have := h.d1 g e; omega, by have := h.b1 g hg; have := h.low0; omega⟩⟩
theorem Kq.appB {b : Option Addr} {n c : Nat} (h : Kq w0 w S hb k vc vd A F) (hb1 : ∀ g, some g = (Value.slice b n c).ownBlock → ¬ S g ∧ some g ≠ vc.ownBlock ∧ some g ≠ vd.ownBlock ∧ w0.heap.size ≤ g) (o : Only (RowOf b) w w') : Kq w0 w' S hb k vc vd A F := by
  have ro : ∀ q, RowOf b q → ¬ S q ∧ some q ≠ vc.ownBlock ∧ some q ≠ vd.ownBlock ∧ w0.heap.size ≤ q := by rintro q ⟨y, rfl, rfl⟩; exact hb1 _ rfl
  exact ⟨h.line.keep o (fun q hq e => (ro q e).1 hq), h.rc.keep o (fun q hq e => (ro q e).2.1 hq), h.c1, h.rd.keep o (fun q hq e => (ro q e).2.2.1 hq), h.d1, h.only.then o (fun q hq hlt => by have := (ro q hq).2.2.2; omega), h.new⟩
end

/-- The four answers. -/
theorem kp_made {w0 w w1 w2 w3 w4 : World} {S : Nat → Prop} {hb k : Nat} {va vb vc vd : Value} {A F : List Int} (h : At w S hb k A F) (hS : ∀ q, S q → w0.heap.size ≤ q) (hO : Only Nil w0 w) (h1 : RowB w.heap.size w1 va A) (o1 : Only Nil w w1) (h2 : RowB w1.heap.size w2 vb F) (o2 : Only Nil w1 w2)
    (h3 : RowB w2.heap.size w3 vc A) (o3 : Only Nil w2 w3) (h4 : RowB w3.heap.size w4 vd F) (o4 : Only Nil w3 w4) : Kp w0 w4 S hb k w.heap.size w1.heap.size w2.heap.size w3.heap.size va vb vc vd A F A F :=
  ⟨h.nil (((o1.trans o2).trans o3).trans o4), h.lt, h1.row.nil ((o2.trans o3).trans o4), fun _ hg => ⟨h1.ge hg, h1.row.lt hg⟩, h2.row.nil (o3.trans o4), fun _ hg => ⟨h2.ge hg, h2.row.lt hg⟩, h3.row.nil o4, fun _ hg => ⟨h3.ge hg, h3.row.lt hg⟩, h4.row, fun _ hg => h4.ge hg, ⟨o1.size, o2.size, o3.size⟩, hO.trans (((o1.trans o2).trans o3).trans o4), hO.size, hS⟩

set_option maxRecDepth 100000 in
set_option maxHeartbeats 16000000 in
theorem kept_all (r : Int) (a : Option Addr) (cap : Nat) (X : List Op) (w : World) (hX : OpsIn w a X) (hr : X.length * 16 ≤ 140737488351232) :
    Calls Try.prog 7 #[.int .i64 r, .slice a X.length cap] w fun e w' => e = .returned (.bool true) ∧ Below w.heap.size w w' := by
  have hX' := Lib.hid hX
  clear hX
  generalize hlen : X.length = len at hr ⊢
  have hlen' := Lib.hid hlen
  clear hlen
  have len8 : (len : Int) * 16 ≤ 140737488351232 := by omega
  clear hr
  have nw := Lib.hid (fun w1 (o : Only Nil w w1) => mine_new w w1 o r)
  generalize rm r = k at *
  go_enter Try.func7, Try.ntmps7
  go_wp2_with (first
    | (go_at_call 8; (with_reducible refine (alive_any _).mono ?_); rintro e w1 ⟨rfl, h⟩; have o1 := Lib.hid h; clear h)
    | (go_at_call 9; (with_reducible refine (nw.out _ o1.out).mono ?_); rintro e w2 ⟨rfl, h⟩; have k2 := Lib.hid h; clear h; generalize w1.heap.size = hb at *))
  go_loopw [6] (fun s6 wr => ∃ (i : Nat) (A F : List Int), i ≤ len ∧ i ≤ 300 ∧ s6 = .int .i64 (i : Int) ∧ Hid (A.length + F.length ≤ i) ∧ Hid (Mine w wr hb k A F))
    (fun s6 _ => 1000 - (intOf s6).toNat)
  case atStart => exact ⟨0, [], [], Nat.zero_le _, Nat.zero_le _, rfl, Lib.hid (Nat.le_refl _), k2⟩
  case round =>
    obtain ⟨i, A, F, hil, hi1, rfl, hn, hm⟩ := hrel
    by_cases hin : i < len ∧ i < 300
    · have hli : (i : Int) < (len : Int) := by omega
      have hl3 : (i : Int) < 300 := by omega
      obtain ⟨bS, off, rfl, hb1, hb2⟩ := hX'.out i (by rw [hlen'.out]; exact hin.1)
      obtain ⟨x5, x6⟩ := hb2 i (by rw [hlen'.out]; exact hin.1)
      clear hb2
      generalize X.getD i default = o at x5 x6
      have y5 : wr.cell? ⟨bS, off + i * 2, none⟩ = some (.int .u8 o.k) := (World.cell?_of_block (a := ⟨bS, off + i * 2, none⟩) (hm.out.only.block bS hb1 (fun z => z))).trans x5
      have y6 : wr.cell? ⟨bS, off + i * 2 + 1, none⟩ = some (.int .u64 o.id) := (World.cell?_of_block (a := ⟨bS, off + i * 2 + 1, none⟩) (hm.out.only.block bS hb1 (fun z => z))).trans x6
      have nums := Lib.hid hin
      clear x5 x6 hb1 hin hil hi1
      obtain ⟨K, hK⟩ := Int.eq_ofNat_of_zero_le o.k0.1
      have hK8 := o.k0.2
      rw [hK] at y5 hK8
      have mk1 : Int.tmod (K : Int) 4 = ((K % 4 : Nat) : Int) := rfl
      have mk2 : (K : Int) % 4 = ((K % 4 : Nat) : Int) := rfl
      clear hK
      generalize K % 4 = kk at mk1 mk2
      by_cases hkk : kk = 0
      · subst hkk
        have st := Lib.hid (mine_stash hm.out o.id)
        have nl := Lib.hid (nx_le k A o.id)
        generalize er k A = ev at *
        generalize nx k A o.id = A' at *
        go_wp2_with (go_at_call 12; go_loud ((with_reducible refine st.out.mono ?_); rintro e w3 ⟨rfl, h⟩; have k3 := Lib.hid h; clear h))
        refine ⟨?rel, ?measure⟩
        case rel => exact ⟨i + 1, A', F, by have := nums.out; omega, by have := nums.out; omega, by go_num, Lib.hid (by have := hn.out; have := nl.out; omega), k3⟩
        case measure => have := nums.out; simp [intOf]; omega
      · have hz : ((kk : Int) == 0) = false := by rw [beq_eq_false_iff_ne]; omega
        have un := Lib.hid (mine_unstash hm.out (by have := hn.out; have := nums.out; omega))
        clear hkk
        go_wp2_with (go_at_call 13; go_loud ((with_reducible refine un.out.mono ?_); rintro e w3 ⟨rfl, h⟩; have k3 := Lib.hid h; clear h))
        refine ⟨?rel, ?measure⟩
        case rel => exact ⟨i + 1, [], A ++ F, by have := nums.out; omega, by have := nums.out; omega, by go_num, Lib.hid (by have := hn.out; rw [List.length_append, List.length_nil]; omega), k3⟩
        case measure => have := nums.out; simp [intOf]; omega
    · have hcase : i = len ∨ (i < len ∧ i = 300) := by omega
      obtain ⟨S, hA, hS, hO⟩ := hm.out
      obtain ⟨la, hla⟩ : ∃ la, la = A.length := ⟨_, rfl⟩
      obtain ⟨lf, hlf⟩ : ∃ lf, lf = F.length := ⟨_, rfl⟩
      have few := Lib.hid (show la + lf ≤ 300 by have := hn.out; omega)
      have sA := Lib.hid (fun (w1 : World) (o : Only Nil wr w1) => show Calls Try.prog 20 #[.pointer (some ⟨hb, 0, none⟩)] w1 fun e w' => ∃ x c, e = .returned (.slice x la c) ∧ Hid (RowB w1.heap.size w' (.slice x la c) A ∧ Only Nil w1 w') from by
        refine (stashed_any (hA.nil o)).mono ?_
        rintro e w' ⟨v', rfl, hk⟩
        obtain ⟨x, c, rfl⟩ := hk.out.1.slice
        exact ⟨x, c, by rw [hla], by rw [hla]; exact hk⟩)
      have sF := Lib.hid (fun (w1 : World) (o : Only Nil wr w1) => show Calls Try.prog 21 #[.pointer (some ⟨hb, 0, none⟩)] w1 fun e w' => ∃ x c, e = .returned (.slice x lf c) ∧ Hid (RowB w1.heap.size w' (.slice x lf c) F ∧ Only Nil w1 w') from by
        refine (front_any (hA.nil o) (by have := few.out; omega)).mono ?_
        rintro e w' ⟨v', rfl, hk⟩
        obtain ⟨x, c, rfl⟩ := hk.out.1.slice
        exact ⟨x, c, by rw [hlf], by rw [hlf]; exact hk⟩)
      have hla' := Lib.hid hla
      have hlf' := Lib.hid hlf
      have hA' := Lib.hid hA
      have hS' := Lib.hid hS
      have hO' := Lib.hid hO
      have la300 : (la : Int) ≤ 300 := by have := few.out; omega
      have lf300 : (lf : Int) ≤ 300 := by have := few.out; omega
      clear hla hlf hA hS hO hin hil hi1 hm hn
      obtain rfl | ⟨hlt2, rfl⟩ := hcase
      · have hk : ¬ (i : Int) < (i : Int) := by omega
        go_wp2_with (first
          | (go_at_call 20; (with_reducible refine (sA.out _ (Only.refl Nil wr)).mono ?_); rintro e w3 ⟨a3, c3, rfl, k3⟩)
          | (go_at_call 21; (with_reducible refine (sF.out _ k3.out.2).mono ?_); rintro e w4 ⟨a4, c4, rfl, k4⟩)
          | (go_at_call 20; go_loud ((with_reducible refine (sA.out _ (k3.out.2.trans k4.out.2)).mono ?_); rintro e w5 ⟨a5, c5, rfl, k5⟩))
          | (go_at_call 21; go_loud ((with_reducible refine (sF.out _ ((k3.out.2.trans k4.out.2).trans k5.out.2)).mono ?_); rintro e w6 ⟨a6, c6, rfl, k6⟩; have kp := Lib.hid (kp_made hA'.out hS'.out hO'.out k3.out.1 k3.out.2 k4.out.1 k4.out.2 k5.out.1 k5.out.2 k6.out.1 k6.out.2))))
        clear sA sF k3 k4 k5 k6 hA' hS' hO'
        generalize wr.heap.size = n0 at kp
        generalize w3.heap.size = n1 at kp
        generalize w4.heap.size = n2 at kp
        generalize w5.heap.size = n3 at kp
        go_loopw [11] (fun s11 wx => ∃ (j : Nat) (Z : List Int), j ≤ la ∧ s11 = .int .i64 (j : Int) ∧ Hid (Z.length = la) ∧ Hid (Kp w wx S hb k n0 n1 n2 n3 (.slice a3 la c3) (.slice a4 lf c4) (.slice a5 la c5) (.slice a6 lf c6) A F Z F))
          (fun s11 _ => 1000 - (intOf s11).toNat)
        case atStart => exact ⟨0, A, Nat.zero_le _, rfl, Lib.hid hla'.out.symm, kp⟩
        case round =>
          obtain ⟨j, Z, hj, rfl, hz, kz⟩ := hrel
          by_cases hja : j < la
          · have hji : (j : Int) < (la : Int) := by omega
            obtain ⟨g, rfl, gl, cg⟩ := us_in (show wr.ownsRow _ 30 1 (.slice a3 la c3) la (us Z) by have := kz.out.ra; unfold Row at this; rw [hz.out] at this; exact this) j hja
            obtain ⟨fg, _⟩ := ust kz.out.ra j
            have hjs := Lib.hid hja
            clear hja hj
            generalize Z.getD j 0 = x0 at cg
            go_wp2
            go_roundw
            case rel => exact ⟨j + 1, Z.set j 77, hjs.out, by go_num, Lib.hid (by rw [List.length_set]; exact hz.out), Lib.hid (kz.out.setA j 77)⟩
            case measure => have := hjs.out; have := few.out; simp [intOf]; omega
          · obtain rfl : j = la := by omega
            have hj0 : ¬ (j : Int) < (j : Int) := by omega
            clear hja hj kp
            go_wp2_with fail
            go_loopw [12] (fun s12 wy => ∃ (q : Nat) (Y : List Int), q ≤ lf ∧ s12 = .int .i64 (q : Int) ∧ Hid (Y.length = lf) ∧ Hid (Kp w wy S hb k n0 n1 n2 n3 (.slice a3 j c3) (.slice a4 lf c4) (.slice a5 j c5) (.slice a6 lf c6) A F Z Y))
              (fun s12 _ => 1000 - (intOf s12).toNat)
            case atStart => exact ⟨0, F, Nat.zero_le _, rfl, Lib.hid hlf'.out.symm, kz⟩
            case round =>
              obtain ⟨q, Y, hq, rfl, hy, ky⟩ := hrel
              by_cases hqa : q < lf
              · have hqi : (q : Int) < (lf : Int) := by omega
                obtain ⟨g, rfl, gl, cg⟩ := us_in (show wr.ownsRow _ 30 1 (.slice a4 lf c4) lf (us Y) by have := ky.out.rb; unfold Row at this; rw [hy.out] at this; exact this) q hqa
                obtain ⟨fg, _⟩ := ust ky.out.rb q
                have hqs := Lib.hid hqa
                clear hqa hq
                generalize Y.getD q 0 = x0 at cg
                go_wp2
                go_roundw
                case rel => exact ⟨q + 1, Y.set q 78, hqs.out, by go_num, Lib.hid (by rw [List.length_set]; exact hy.out), Lib.hid (ky.out.setB q 78)⟩
                case measure => have := hqs.out; have := few.out; simp [intOf]; omega
              · obtain rfl : q = lf := by omega
                have hq0 : ¬ (q : Int) < (q : Int) := by omega
                obtain ⟨a7, c7, w7, hr7, h7⟩ := push ky.out.ra hz.out 79 (by omega)
                obtain ⟨q7, rb7, nb7⟩ := ky.out.appA h7.out.2.1
                obtain ⟨a8, c8, w8, hr8, h8⟩ := push rb7 hy.out 80 (by omega)
                have q8 := q7.appB nb7 h8.out.2.1
                obtain ⟨m, hm⟩ : ∃ m, m = q + j := ⟨_, rfl⟩
                obtain ⟨V, hV⟩ : ∃ V, V = F ++ A := ⟨_, rfl⟩
                have cl := Lib.hid (show Calls Try.prog 18 #[.pointer (some ⟨hb, 0, none⟩)] w8 fun e w' => ∃ x c, e = .returned (.slice x m c) ∧ Hid (Row w' (.slice x m c) V ∧ Row w' (.slice a5 j c5) A ∧ Row w' (.slice a6 q c6) F ∧ Only Nil w w') from by
                  refine (clear_any q8.line (by rw [← hlf'.out]; have := few.out; omega)).mono ?_
                  rintro e w' ⟨v', rfl, hk⟩
                  obtain ⟨g1, _, _, g4⟩ := hk.out
                  obtain ⟨x, c, rfl⟩ := g1.slice
                  have hl : (F ++ A).length = m := by rw [List.length_append, ← hlf'.out, ← hla'.out, hm]
                  exact ⟨x, c, by rw [hl], Lib.hid ⟨by have := g1.row; rw [hl] at this; rw [hV]; exact this, q8.rc.keep g4 (fun g hg => q8.c1 g hg), q8.rd.keep g4 (fun g hg => q8.d1 g hg), q8.only.then g4 (fun q hq hlt => by have := q8.new q hq; omega)⟩⟩)
                have hVl := Lib.hid (show V.length = m by rw [hV, List.length_append, ← hlf'.out, ← hla'.out, hm])
                have hV1 := Lib.hid (fun (t : Nat) (ht : t < q) => show V.getD t 0 = F.getD t 0 from by
                  rw [hV, List.getD_eq_getElem?_getD, List.getD_eq_getElem?_getD, List.getElem?_append_left (by rw [← hlf'.out]; exact ht)])
                have hV2 := Lib.hid (fun (t : Nat) (_ : t < m) (hj : ¬ t < q) => show V.getD t 0 = A.getD (t - q) 0 from by
                  rw [hV, List.getD_eq_getElem?_getD, List.getD_eq_getElem?_getD, List.getElem?_append_right (by rw [← hlf'.out]; omega), ← hlf'.out])
                have hw1 : IntKind.i64.wrap ((j : Int) + (q : Int)) = (m : Int) := by rw [IntKind.wrap_i64]; omega
                have hw2 : IntKind.i64.wrap ((j : Int) + 1 + ((q : Int) + 1)) = (m : Int) + 2 := by rw [IntKind.wrap_i64]; omega
                have hw3 : IntKind.i64.wrap ((m : Int) + 2) = (m : Int) + 2 := by rw [IntKind.wrap_i64]; omega
                have m300 := Lib.hid (show m ≤ 300 by have := few.out; omega)
                have mi : (m : Int) ≤ 300 := by have := m300.out; omega
                have hmqj := Lib.hid hm
                have r7 := Lib.hid hr7
                have r8 := Lib.hid hr8
                clear hr7 hr8 h7 h8 q7 rb7 nb7 q8 hm hV hqa hq kz
                go_wp2_with (first
                  | (at_builtin; refine Lib.wpList_append_run _ rfl (.tmp 71) (.tmp 72) 26 26 rfl _ _ rfl rfl _ _ r7.out ?_)
                  | (at_builtin; refine Lib.wpList_append_run _ rfl (.tmp 74) (.tmp 75) 26 26 rfl _ _ rfl rfl _ _ r8.out ?_)
                  | (go_at_call 18; go_loud ((with_reducible refine cl.out.mono ?_); rintro e w9 ⟨a9, c9, rfl, k9⟩)))
                clear cl r7 r8 ky hw1 hw2 hw3
                go_loopw [14] (fun s14 wz => ∃ (t : Nat), t ≤ m ∧ s14 = .int .i64 (t : Int) ∧ Hid (Only Nil w9 wz))
                  (fun s14 _ => 1000 - (intOf s14).toNat)
                case atStart => exact ⟨0, Nat.zero_le _, rfl, Lib.hid (Only.refl _ _)⟩
                case round =>
                  obtain ⟨t, ht, rfl, ot⟩ := hrel
                  by_cases htm : t < m
                  · have hti : (t : Int) < (m : Int) := by omega
                    obtain ⟨g9, rfl, l9, d9⟩ := us_in (show wr.ownsRow _ 30 1 (.slice a9 m c9) m (us V) by have := k9.out.1.nil ot.out; unfold Row at this; rw [hVl.out] at this; exact this) t htm
                    have hts := Lib.hid htm
                    by_cases htq : t < q
                    · obtain ⟨g6, rfl, l6, d6⟩ := us_in (show wr.ownsRow _ 30 1 (.slice a6 q c6) q (us F) by have := k9.out.2.2.1.nil ot.out; unfold Row at this; rw [← hlf'.out] at this; exact this) t htq
                      rw [hV1.out t htq] at d9
                      have h1 : (t : Int) < (q : Int) := by omega
                      have h2 : decide ((q : Int) ≤ (t : Int)) = false := decide_eq_false (by omega)
                      have h2' : decide (q ≤ t) = false := decide_eq_false (by omega)
                      clear htm ht htq
                      generalize F.getD t 0 = x at d6 d9
                      go_wp2_with fail
                      go_quiet (fail)
                      go_wp2_with fail
                      have ot2 := Lib.hid (ot.out.drewN nq)
                      go_roundw
                      case rel => exact ⟨t + 1, hts.out, by go_num, ot2⟩
                      case measure => have := hts.out; have := m300.out; simp [intOf]; omega
                    · obtain ⟨d, hd⟩ : ∃ d, d = t - q := ⟨_, rfl⟩
                      obtain ⟨g5, rfl, l5, d5⟩ := us_in (show wr.ownsRow _ 30 1 (.slice a5 j c5) j (us A) by have := k9.out.2.1.nil ot.out; unfold Row at this; rw [← hla'.out] at this; exact this) d (by have := hmqj.out; omega)
                      rw [hV2.out t htm htq, ← hd] at d9
                      have h1 : decide ((t : Int) < (q : Int)) = false := decide_eq_false (by omega)
                      have h1' : decide (t < q) = false := decide_eq_false (by omega)
                      have h2 : (q : Int) ≤ (t : Int) := by omega
                      have hw4 : IntKind.i64.wrap ((t : Int) - (q : Int)) = (d : Int) := by rw [IntKind.wrap_i64]; omega
                      have hdj : (d : Int) < (j : Int) := by have := hmqj.out; omega
                      clear htm ht htq hd
                      generalize A.getD d 0 = x at d5 d9
                      go_wp2_with fail
                      go_quiet (fail)
                      go_wp2_with fail
                      have ot2 := Lib.hid (ot.out.drewN nq)
                      go_roundw
                      case rel => exact ⟨t + 1, hts.out, by go_num, ot2⟩
                      case measure => have := hts.out; have := m300.out; simp [intOf]; omega
                  · obtain rfl : t = m := by omega
                    have ht0 : ¬ (t : Int) < (t : Int) := by omega
                    have fin := Lib.hid (k9.out.2.2.2.trans ot.out)
                    go_wp2
                    go_ret
                    exact ⟨rfl, fin.out.below (Nat.le_refl _) (fun _ h => h.elim)⟩
      · have hk : (300 : Int) < (len : Int) := by omega
        have hk2 : ¬ (300 : Int) < 300 := by omega
        clear hlt2
        go_wp2_with (first
          | (go_at_call 20; (with_reducible refine (sA.out _ (Only.refl Nil wr)).mono ?_); rintro e w3 ⟨a3, c3, rfl, k3⟩)
          | (go_at_call 21; (with_reducible refine (sF.out _ k3.out.2).mono ?_); rintro e w4 ⟨a4, c4, rfl, k4⟩)
          | (go_at_call 20; go_loud ((with_reducible refine (sA.out _ (k3.out.2.trans k4.out.2)).mono ?_); rintro e w5 ⟨a5, c5, rfl, k5⟩))
          | (go_at_call 21; go_loud ((with_reducible refine (sF.out _ ((k3.out.2.trans k4.out.2).trans k5.out.2)).mono ?_); rintro e w6 ⟨a6, c6, rfl, k6⟩; have kp := Lib.hid (kp_made hA'.out hS'.out hO'.out k3.out.1 k3.out.2 k4.out.1 k4.out.2 k5.out.1 k5.out.2 k6.out.1 k6.out.2))))
        clear sA sF k3 k4 k5 k6 hA' hS' hO'
        generalize wr.heap.size = n0 at kp
        generalize w3.heap.size = n1 at kp
        generalize w4.heap.size = n2 at kp
        generalize w5.heap.size = n3 at kp
        go_loopw [11] (fun s11 wx => ∃ (j : Nat) (Z : List Int), j ≤ la ∧ s11 = .int .i64 (j : Int) ∧ Hid (Z.length = la) ∧ Hid (Kp w wx S hb k n0 n1 n2 n3 (.slice a3 la c3) (.slice a4 lf c4) (.slice a5 la c5) (.slice a6 lf c6) A F Z F))
          (fun s11 _ => 1000 - (intOf s11).toNat)
        case atStart => exact ⟨0, A, Nat.zero_le _, rfl, Lib.hid hla'.out.symm, kp⟩
        case round =>
          obtain ⟨j, Z, hj, rfl, hz, kz⟩ := hrel
          by_cases hja : j < la
          · have hji : (j : Int) < (la : Int) := by omega
            obtain ⟨g, rfl, gl, cg⟩ := us_in (show wr.ownsRow _ 30 1 (.slice a3 la c3) la (us Z) by have := kz.out.ra; unfold Row at this; rw [hz.out] at this; exact this) j hja
            obtain ⟨fg, _⟩ := ust kz.out.ra j
            have hjs := Lib.hid hja
            clear hja hj
            generalize Z.getD j 0 = x0 at cg
            go_wp2
            go_roundw
            case rel => exact ⟨j + 1, Z.set j 77, hjs.out, by go_num, Lib.hid (by rw [List.length_set]; exact hz.out), Lib.hid (kz.out.setA j 77)⟩
            case measure => have := hjs.out; have := few.out; simp [intOf]; omega
          · obtain rfl : j = la := by omega
            have hj0 : ¬ (j : Int) < (j : Int) := by omega
            clear hja hj kp
            go_wp2_with fail
            go_loopw [12] (fun s12 wy => ∃ (q : Nat) (Y : List Int), q ≤ lf ∧ s12 = .int .i64 (q : Int) ∧ Hid (Y.length = lf) ∧ Hid (Kp w wy S hb k n0 n1 n2 n3 (.slice a3 j c3) (.slice a4 lf c4) (.slice a5 j c5) (.slice a6 lf c6) A F Z Y))
              (fun s12 _ => 1000 - (intOf s12).toNat)
            case atStart => exact ⟨0, F, Nat.zero_le _, rfl, Lib.hid hlf'.out.symm, kz⟩
            case round =>
              obtain ⟨q, Y, hq, rfl, hy, ky⟩ := hrel
              by_cases hqa : q < lf
              · have hqi : (q : Int) < (lf : Int) := by omega
                obtain ⟨g, rfl, gl, cg⟩ := us_in (show wr.ownsRow _ 30 1 (.slice a4 lf c4) lf (us Y) by have := ky.out.rb; unfold Row at this; rw [hy.out] at this; exact this) q hqa
                obtain ⟨fg, _⟩ := ust ky.out.rb q
                have hqs := Lib.hid hqa
                clear hqa hq
                generalize Y.getD q 0 = x0 at cg
                go_wp2
                go_roundw
                case rel => exact ⟨q + 1, Y.set q 78, hqs.out, by go_num, Lib.hid (by rw [List.length_set]; exact hy.out), Lib.hid (ky.out.setB q 78)⟩
                case measure => have := hqs.out; have := few.out; simp [intOf]; omega
              · obtain rfl : q = lf := by omega
                have hq0 : ¬ (q : Int) < (q : Int) := by omega
                obtain ⟨a7, c7, w7, hr7, h7⟩ := push ky.out.ra hz.out 79 (by omega)
                obtain ⟨q7, rb7, nb7⟩ := ky.out.appA h7.out.2.1
                obtain ⟨a8, c8, w8, hr8, h8⟩ := push rb7 hy.out 80 (by omega)
                have q8 := q7.appB nb7 h8.out.2.1
                obtain ⟨m, hm⟩ : ∃ m, m = q + j := ⟨_, rfl⟩
                obtain ⟨V, hV⟩ : ∃ V, V = F ++ A := ⟨_, rfl⟩
                have cl := Lib.hid (show Calls Try.prog 18 #[.pointer (some ⟨hb, 0, none⟩)] w8 fun e w' => ∃ x c, e = .returned (.slice x m c) ∧ Hid (Row w' (.slice x m c) V ∧ Row w' (.slice a5 j c5) A ∧ Row w' (.slice a6 q c6) F ∧ Only Nil w w') from by
                  refine (clear_any q8.line (by rw [← hlf'.out]; have := few.out; omega)).mono ?_
                  rintro e w' ⟨v', rfl, hk⟩
                  obtain ⟨g1, _, _, g4⟩ := hk.out
                  obtain ⟨x, c, rfl⟩ := g1.slice
                  have hl : (F ++ A).length = m := by rw [List.length_append, ← hlf'.out, ← hla'.out, hm]
                  exact ⟨x, c, by rw [hl], Lib.hid ⟨by have := g1.row; rw [hl] at this; rw [hV]; exact this, q8.rc.keep g4 (fun g hg => q8.c1 g hg), q8.rd.keep g4 (fun g hg => q8.d1 g hg), q8.only.then g4 (fun q hq hlt => by have := q8.new q hq; omega)⟩⟩)
                have hVl := Lib.hid (show V.length = m by rw [hV, List.length_append, ← hlf'.out, ← hla'.out, hm])
                have hV1 := Lib.hid (fun (t : Nat) (ht : t < q) => show V.getD t 0 = F.getD t 0 from by
                  rw [hV, List.getD_eq_getElem?_getD, List.getD_eq_getElem?_getD, List.getElem?_append_left (by rw [← hlf'.out]; exact ht)])
                have hV2 := Lib.hid (fun (t : Nat) (_ : t < m) (hj : ¬ t < q) => show V.getD t 0 = A.getD (t - q) 0 from by
                  rw [hV, List.getD_eq_getElem?_getD, List.getD_eq_getElem?_getD, List.getElem?_append_right (by rw [← hlf'.out]; omega), ← hlf'.out])
                have hw1 : IntKind.i64.wrap ((j : Int) + (q : Int)) = (m : Int) := by rw [IntKind.wrap_i64]; omega
                have hw2 : IntKind.i64.wrap ((j : Int) + 1 + ((q : Int) + 1)) = (m : Int) + 2 := by rw [IntKind.wrap_i64]; omega
                have hw3 : IntKind.i64.wrap ((m : Int) + 2) = (m : Int) + 2 := by rw [IntKind.wrap_i64]; omega
                have m300 := Lib.hid (show m ≤ 300 by have := few.out; omega)
                have mi : (m : Int) ≤ 300 := by have := m300.out; omega
                have hmqj := Lib.hid hm
                have r7 := Lib.hid hr7
                have r8 := Lib.hid hr8
                clear hr7 hr8 h7 h8 q7 rb7 nb7 q8 hm hV hqa hq kz
                go_wp2_with (first
                  | (at_builtin; refine Lib.wpList_append_run _ rfl (.tmp 71) (.tmp 72) 26 26 rfl _ _ rfl rfl _ _ r7.out ?_)
                  | (at_builtin; refine Lib.wpList_append_run _ rfl (.tmp 74) (.tmp 75) 26 26 rfl _ _ rfl rfl _ _ r8.out ?_)
                  | (go_at_call 18; go_loud ((with_reducible refine cl.out.mono ?_); rintro e w9 ⟨a9, c9, rfl, k9⟩)))
                clear cl r7 r8 ky hw1 hw2 hw3
                go_loopw [14] (fun s14 wz => ∃ (t : Nat), t ≤ m ∧ s14 = .int .i64 (t : Int) ∧ Hid (Only Nil w9 wz))
                  (fun s14 _ => 1000 - (intOf s14).toNat)
                case atStart => exact ⟨0, Nat.zero_le _, rfl, Lib.hid (Only.refl _ _)⟩
                case round =>
                  obtain ⟨t, ht, rfl, ot⟩ := hrel
                  by_cases htm : t < m
                  · have hti : (t : Int) < (m : Int) := by omega
                    obtain ⟨g9, rfl, l9, d9⟩ := us_in (show wr.ownsRow _ 30 1 (.slice a9 m c9) m (us V) by have := k9.out.1.nil ot.out; unfold Row at this; rw [hVl.out] at this; exact this) t htm
                    have hts := Lib.hid htm
                    by_cases htq : t < q
                    · obtain ⟨g6, rfl, l6, d6⟩ := us_in (show wr.ownsRow _ 30 1 (.slice a6 q c6) q (us F) by have := k9.out.2.2.1.nil ot.out; unfold Row at this; rw [← hlf'.out] at this; exact this) t htq
                      rw [hV1.out t htq] at d9
                      have h1 : (t : Int) < (q : Int) := by omega
                      have h2 : decide ((q : Int) ≤ (t : Int)) = false := decide_eq_false (by omega)
                      have h2' : decide (q ≤ t) = false := decide_eq_false (by omega)
                      clear htm ht htq
                      generalize F.getD t 0 = x at d6 d9
                      go_wp2_with fail
                      go_quiet (fail)
                      go_wp2_with fail
                      have ot2 := Lib.hid (ot.out.drewN nq)
                      go_roundw
                      case rel => exact ⟨t + 1, hts.out, by go_num, ot2⟩
                      case measure => have := hts.out; have := m300.out; simp [intOf]; omega
                    · obtain ⟨d, hd⟩ : ∃ d, d = t - q := ⟨_, rfl⟩
                      obtain ⟨g5, rfl, l5, d5⟩ := us_in (show wr.ownsRow _ 30 1 (.slice a5 j c5) j (us A) by have := k9.out.2.1.nil ot.out; unfold Row at this; rw [← hla'.out] at this; exact this) d (by have := hmqj.out; omega)
                      rw [hV2.out t htm htq, ← hd] at d9
                      have h1 : decide ((t : Int) < (q : Int)) = false := decide_eq_false (by omega)
                      have h1' : decide (t < q) = false := decide_eq_false (by omega)
                      have h2 : (q : Int) ≤ (t : Int) := by omega
                      have hw4 : IntKind.i64.wrap ((t : Int) - (q : Int)) = (d : Int) := by rw [IntKind.wrap_i64]; omega
                      have hdj : (d : Int) < (j : Int) := by have := hmqj.out; omega
                      clear htm ht htq hd
                      generalize A.getD d 0 = x at d5 d9
                      go_wp2_with fail
                      go_quiet (fail)
                      go_wp2_with fail
                      have ot2 := Lib.hid (ot.out.drewN nq)
                      go_roundw
                      case rel => exact ⟨t + 1, hts.out, by go_num, ot2⟩
                      case measure => have := hts.out; have := m300.out; simp [intOf]; omega
                  · obtain rfl : t = m := by omega
                    have ht0 : ¬ (t : Int) < (t : Int) := by omega
                    have fin := Lib.hid (k9.out.2.2.2.trans ot.out)
                    go_wp2
                    go_ret
                    exact ⟨rfl, fin.out.below (Nat.le_refl _) (fun _ h => h.elim)⟩
end Go.Proofs.Ytdhfmocjhcgicaa.St
