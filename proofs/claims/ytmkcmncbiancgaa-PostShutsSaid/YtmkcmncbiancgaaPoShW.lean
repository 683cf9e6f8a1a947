/- PostShuts: the walk. -/
import Derived.Test.YtmkcmncbiancgaaPoShA
import Derived.Test.YtmkcmncbiancgaaRowA
namespace Go.Proofs.Ytmkcmncbiancgaa.Po
open Go.RowKit Go.Proofs.Ytmkcmncbiancgaa
theorem RowK.nil {kk : IntKind} {w w' : World} {a : Option Addr} {L : List Int} (h : RowK kk w a L) (o : Only Nil w w') : RowK kk w' a L := by
  intro i hi
  obtain ⟨b, off, e, hb, hc⟩ := h i hi
  exact ⟨b, off, e, Nat.lt_of_lt_of_le hb o.size, fun j hj => (World.cell?_of_block (a := ⟨b, off + j, none⟩) (o.block b hb (fun h => h))).trans (hc j hj)⟩
set_option maxRecDepth 100000 in
set_option maxHeartbeats 8000000 in
theorem shuts_all (late : Int) {w : World} {a : Option Addr} {V : List Int} {c : Nat} (hV : RowK .u64 w a V) (hr : V.length * 8 ≤ 140737488351232) :
    Calls Try.prog 7 #[.slice a V.length c, .int .u64 late] w fun e w' => e = .returned (.bool true) ∧ Below w.heap.size w w' := by
  obtain ⟨n, hn⟩ : ∃ n : Nat, n = min V.length 8 := ⟨_, rfl⟩
  have e1 : min (V.length : Int) 8 = (n : Int) := by omega
  have al := Lib.hid (alive_any w)
  have md := Lib.hid (fun w1 => made_any w1 8 4 (by decide) (by decide) (by decide) (by decide))
  simp only [mdA, show ((8 : Nat) : Int) = 8 from rfl, show ((4 : Nat) : Int) = 4 from rfl] at md
  have nn : Hid (n < 9) := Lib.hid (by omega)
  have gn : (n : Int) ≤ 8 := by omega
  have hV' := Lib.hid hV
  have nl : Hid (n ≤ V.length) := Lib.hid (by omega)
  have lr : (V.length : Int) ≤ 140737488351232 := by omega
  clear hV hr hn
  go_enter Try.func7, Try.ntmps7
  go_wp2_with (first
    | (go_at_call 8; refine (al.out).mono ?_; rintro e w1 ⟨rfl, o1⟩)
    | (go_at_call 18; refine (md.out _).mono ?_; rintro e w2 ⟨bx, mg, ng, rfl, h0⟩))
  generalize hf : (fun i => V.getD i 0) = f at *
  have hV1 : Hid (∀ wr, Only Nil w1 wr → ∀ i, i < n → ∃ b off, a = some ⟨b, off, none⟩ ∧ wr.cell? ⟨b, off + i, none⟩ = some (.int .u64 (f i))) := Lib.hid (fun wr o i hi => by
    obtain ⟨b, off, e, _, hc⟩ := (RowK.nil hV'.out (o1.trans o)) i (by have := nl.out; omega)
    exact ⟨b, off, e, by rw [← hf]; exact hc i (by have := nl.out; omega)⟩)
  have nl' := Lib.hid (show (n : Int) ≤ (V.length : Int) by have := nl.out; omega)
  have h1' : Hid (Lw w1 w2 ⟨bx, mg, ng, w1.heap.size + 1, w1.heap.size, 0, 8, 4⟩ (shL ⟨bx, mg, ng, w1.heap.size + 1, w1.heap.size, 0, 8, 4⟩ f 0) 1100) := Lib.hid (by
    obtain ⟨⟨t, b, ht⟩, o, l⟩ := h0.out
    exact ⟨⟨t, b, by omega⟩, o, l⟩)
  have o1' := Lib.hid o1
  clear h0 al md o1 hf hV' nl
  generalize V.length = len at *
  go_loopw [8] (fun s8 wr => ∃ i : Nat, i ≤ n ∧ s8 = .int .i64 (i : Int) ∧ Hid (Lw w1 wr ⟨bx, mg, ng, w1.heap.size + 1, w1.heap.size, 0, 8, 4⟩ (shL ⟨bx, mg, ng, w1.heap.size + 1, w1.heap.size, 0, 8, 4⟩ f i) (1100 + 100 * (i : Int))))
    (fun s8 _ => n - (intOf s8).toNat)
  case atStart => exact ⟨0, Nat.zero_le _, rfl, Lib.hid (by simpa using h1'.out)⟩
  case round =>
    obtain ⟨i, hi, rfl, hh⟩ := hrel
    by_cases hlt : i < n
    · have hl2 : (i : Int) < (n : Int) := by omega
      have hl3 : (i : Int) < (len : Int) := by have := nl'.out; omega
      obtain ⟨bb, off, rfl, ci⟩ := hV1.out wr hh.out.only i hlt
      have tl := Lib.hid (hh.out.tell (f i) (sh_tell bx mg ng (w1.heap.size + 1) w1.heap.size f i (by have := nn.out; omega)) (by split <;> decide) (by omega) (1100 + 100 * ((i + 1 : Nat) : Int)) (by split <;> omega) (o := if i = 0 then 7 else 1) (x := 0) (m := ((if i = 0 then 7 else 6 : Nat) : Int)) (by split <;> rfl) rfl rfl)
      generalize f i = fi at tl ci
      clear hh hlt
      go_wp2_with (first
        | (go_at_call 25; (with_reducible refine (tl.out).mono ?_); rintro e y1 ⟨ob1, rfl, d1⟩)
        | (go_at_call 23; (with_reducible refine (d1.out).mono ?_); rintro e x2 ⟨rfl, h2⟩))
      go_roundw
      case rel => exact ⟨i + 1, by omega, by go_num, h2⟩
      case measure => simp [intOf]; omega
    · obtain rfl : i = n := by omega
      have hl2 : ¬ ((i : Int) < (i : Int)) := by omega
      obtain ⟨r1, r2, r3, r4, r5, r6, r7, r8, r9, r10⟩ := sh_all bx mg ng (w1.heap.size + 1) w1.heap.size f late i nn.out
      have p1 := Lib.hid (hh.out.begin r1 (by decide) (by omega) 3000 (by omega) (o := 1) (x := 0) (m := 1) rfl rfl rfl)
      have p2 := Lib.hid (fun w2 (H : Lw w1 w2 ⟨bx, mg, ng, w1.heap.size + 1, w1.heap.size, 0, 8, 4⟩ (shB ⟨bx, mg, ng, w1.heap.size + 1, w1.heap.size, 0, 8, 4⟩ f i) 3000) => H.gone r2 (by decide) (by decide) 3100 (by decide) (o := 4) (x := 0) (m := 1) rfl rfl rfl)
      have p3 := Lib.hid (fun w2 (H : Lw w1 w2 ⟨bx, mg, ng, w1.heap.size + 1, w1.heap.size, 0, 8, 4⟩ (shB ⟨bx, mg, ng, w1.heap.size + 1, w1.heap.size, 0, 8, 4⟩ f i) 3100) => H.close r3 (by decide) (by decide) 3200 (by decide) (o := 1) (x := 0) (m := 2) rfl rfl rfl)
      have p4 := Lib.hid (fun w2 (H : Lw w1 w2 ⟨bx, mg, ng, w1.heap.size + 1, w1.heap.size, 0, 8, 4⟩ (shC ⟨bx, mg, ng, w1.heap.size + 1, w1.heap.size, 0, 8, 4⟩ f i) 3200) => H.tell late r4 (by decide) (by decide) 3300 (by decide) (o := 3) (x := 0) (m := 1) rfl rfl rfl)
      have p5 := Lib.hid (fun w2 (H : Lw w1 w2 ⟨bx, mg, ng, w1.heap.size + 1, w1.heap.size, 0, 8, 4⟩ (shD ⟨bx, mg, ng, w1.heap.size + 1, w1.heap.size, 0, 8, 4⟩ f i i) 5000) => H.drain r5 (by decide) (by decide) 5100 (by decide) (o := 5) (x := 0) (m := 2) rfl rfl rfl)
      have p6 := Lib.hid (fun w2 (H : Lw w1 w2 ⟨bx, mg, ng, w1.heap.size + 1, w1.heap.size, 0, 8, 4⟩ (shE ⟨bx, mg, ng, w1.heap.size + 1, w1.heap.size, 0, 8, 4⟩ f i) 5100) => H.shut r6 (by decide) (by decide) 5200 (by decide) (o := 1) (x := 0) (m := 1) rfl rfl rfl)
      have p7 := Lib.hid (fun w2 (H : Lw w1 w2 ⟨bx, mg, ng, w1.heap.size + 1, w1.heap.size, 0, 8, 4⟩ (shF ⟨bx, mg, ng, w1.heap.size + 1, w1.heap.size, 0, 8, 4⟩ f i) 5200) => H.gone r7 (by decide) (by decide) 5300 (by decide) (o := 1) (x := 0) (m := 1) rfl rfl rfl)
      have p8 := Lib.hid (fun w2 (H : Lw w1 w2 ⟨bx, mg, ng, w1.heap.size + 1, w1.heap.size, 0, 8, 4⟩ (shF ⟨bx, mg, ng, w1.heap.size + 1, w1.heap.size, 0, 8, 4⟩ f i) 5300) => H.push late r8 (by decide) (by decide) 5400 (by decide) (o := 1) (x := 0) (m := 6) rfl rfl rfl)
      have p9 := Lib.hid (fun w2 (H : Lw w1 w2 ⟨bx, mg, ng, w1.heap.size + 1, w1.heap.size, 0, 8, 4⟩ (shG ⟨bx, mg, ng, w1.heap.size + 1, w1.heap.size, 0, 8, 4⟩ f i late) 5400) => H.tell late r9 (by decide) (by decide) 5500 (by decide) (o := 3) (x := 0) (m := 1) rfl rfl rfl)
      have pk := Lib.hid (fun w2 (H : Lw w1 w2 ⟨bx, mg, ng, w1.heap.size + 1, w1.heap.size, 0, 8, 4⟩ (shG ⟨bx, mg, ng, w1.heap.size + 1, w1.heap.size, 0, 8, 4⟩ f i late) 5500) => H.peek 4 r10)
      have dr := Lib.hid (fun j (hj : j < i) => sh_drain bx mg ng (w1.heap.size + 1) w1.heap.size f i j nn.out hj)
      clear r1 r2 r3 r4 r5 r6 r7 r8 r9 r10 hh hi hlt
      go_wp2_with (first
        | (go_at_call 27; (with_reducible refine (p1.out).mono ?_); rintro e y3 ⟨ob3, rfl, d3⟩)
        | (go_at_call 23; (with_reducible refine (d3.out).mono ?_); rintro e x3 ⟨rfl, h3⟩)
        | (go_at_call 32; (with_reducible refine (p2.out _ h3.out).mono ?_); rintro e y4 ⟨ob4, rfl, d4⟩)
        | (go_at_call 23; (with_reducible refine (d4.out).mono ?_); rintro e x4 ⟨rfl, h4⟩)
        | (go_at_call 33; (with_reducible refine (p3.out _ h4.out).mono ?_); rintro e y5 ⟨ob5, rfl, d5⟩)
        | (go_at_call 23; (with_reducible refine (d5.out).mono ?_); rintro e x5 ⟨rfl, h5⟩)
        | (go_at_call 25; (with_reducible refine (p4.out _ h5.out).mono ?_); rintro e y6 ⟨ob6, rfl, d6⟩)
        | (go_at_call 23; (with_reducible refine (d6.out).mono ?_); rintro e x6 ⟨rfl, h6⟩))
      have g1 : Hid (Lw w1 x6 ⟨bx, mg, ng, w1.heap.size + 1, w1.heap.size, 0, 8, 4⟩ (shD ⟨bx, mg, ng, w1.heap.size + 1, w1.heap.size, 0, 8, 4⟩ f i 0) 3300) := h6
      clear p1 p2 p3 p4 d3 d4 d5 d6 h3 h4 h5 h6
      go_loopw [18] (fun s18 wr => ∃ j : Nat, j ≤ i ∧ s18 = .int .i64 (j : Int) ∧ Hid (Lw w1 wr ⟨bx, mg, ng, w1.heap.size + 1, w1.heap.size, 0, 8, 4⟩ (shD ⟨bx, mg, ng, w1.heap.size + 1, w1.heap.size, 0, 8, 4⟩ f i j) (3300 + 100 * (j : Int))))
        (fun s18 _ => i - (intOf s18).toNat)
      case atStart => exact ⟨0, Nat.zero_le _, rfl, Lib.hid (by simpa using g1.out)⟩
      case round =>
        obtain ⟨j, hj, rfl, hh⟩ := hrel
        by_cases hlt : j < i
        · have hl4 : (j : Int) < (i : Int) := by omega
          have hl3 : (j : Int) < (len : Int) := by have := nl'.out; omega
          have cj : Hid (∀ wr, Only Nil w1 wr → ∃ b off, a = some ⟨b, off, none⟩ ∧ wr.cell? ⟨b, off + j, none⟩ = some (.int .u64 (f j))) := Lib.hid (fun wr o => hV1.out wr o j hlt)
          obtain ⟨bb, off, ea, _⟩ := cj.out wr hh.out.only
          subst ea
          have ck : Hid (∀ wr, Only Nil w1 wr → wr.cell? ⟨bb, off + j, none⟩ = some (.int .u64 (f j))) := Lib.hid (fun wr o => by
            obtain ⟨b2, f2, e2, c2⟩ := cj.out wr o
            cases e2; exact c2)
          have tl := Lib.hid (hh.out.drain (dr.out j hlt) (by decide) (by omega) (3300 + 100 * ((j + 1 : Nat) : Int)) (by omega) (o := 1) (x := f j) (m := 6) rfl rfl rfl)
          clear cj
          generalize f j = fi at tl ck
          clear hh hlt
          go_wp2_with (first
            | (go_at_call 34; (with_reducible refine (tl.out).mono ?_); rintro e y1 ⟨ob1, rfl, d1⟩)
            | (go_at_call 23; (with_reducible refine (d1.out).mono ?_); rintro e x2 ⟨rfl, h2⟩; have cx := ck.out _ h2.out.only))
          go_roundw
          case rel => exact ⟨j + 1, by omega, by go_num, h2⟩
          case measure => simp [intOf]; omega
        · obtain rfl : j = i := by omega
          have h6 : Hid (Lw w1 wr ⟨bx, mg, ng, w1.heap.size + 1, w1.heap.size, 0, 8, 4⟩ (shD ⟨bx, mg, ng, w1.heap.size + 1, w1.heap.size, 0, 8, 4⟩ f j j) 5000) := Lib.hid (by
            obtain ⟨⟨t, b, ht⟩, o, l⟩ := hh.out
            exact ⟨⟨t, b, by omega⟩, o, l⟩)
          clear hh hlt hj
          go_wp2_with (first
            | (go_at_call 34; (with_reducible refine (p5.out _ h6.out).mono ?_); rintro e y7 ⟨ob7, rfl, d7⟩)
            | (go_at_call 23; (with_reducible refine (d7.out).mono ?_); rintro e x7 ⟨rfl, h7⟩)
            | (go_at_call 35; (with_reducible refine (p6.out _ h7.out).mono ?_); rintro e y8 ⟨ob8, rfl, d8⟩)
            | (go_at_call 23; (with_reducible refine (d8.out).mono ?_); rintro e x8 ⟨rfl, h8⟩)
            | (go_at_call 32; (with_reducible refine (p7.out _ h8.out).mono ?_); rintro e y9 ⟨ob9, rfl, d9⟩)
            | (go_at_call 23; (with_reducible refine (d9.out).mono ?_); rintro e x9 ⟨rfl, h9⟩)
            | (go_at_call 26; (with_reducible refine (p8.out _ h9.out).mono ?_); rintro e y10 ⟨ob10, rfl, d10⟩)
            | (go_at_call 23; (with_reducible refine (d10.out).mono ?_); rintro e x10 ⟨rfl, h10⟩)
            | (go_at_call 25; (with_reducible refine (p9.out _ h10.out).mono ?_); rintro e y11 ⟨ob11, rfl, d11⟩)
            | (go_at_call 23; (with_reducible refine (d11.out).mono ?_); rintro e x11 ⟨rfl, h11⟩)
            | (go_at_call 22; (with_reducible refine (pk.out _ h11.out).mono ?_); rintro e z3 ⟨rfl, rfl⟩))
          go_ret
          exact ⟨rfl, (o1'.out.trans h11.out.only).below (Nat.le_refl _) (fun _ h => h.elim)⟩
end Go.Proofs.Ytmkcmncbiancgaa.Po
