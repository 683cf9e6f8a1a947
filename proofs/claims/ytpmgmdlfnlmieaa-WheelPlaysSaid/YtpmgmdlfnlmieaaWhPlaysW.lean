/- WheelPlays: the walk. -/
import Derived.Test.YtpmgmdlfnlmieaaWhPlA
import Derived.Deep.DeepCutAuto
import Derived.Deep.CutBlock
namespace Go.Proofs.Ytpmgmdlfnlmieaa.Wh
open Go.RowKit Go.Proofs.Ytpmgmdlfnlmieaa

set_option maxRecDepth 100000 in
set_option maxHeartbeats 8000000 in
theorem plays_all (a : Option Addr) (cap : Nat) (S : List OpN) (w : World) (hS : OpsIn w a S) (hok : OpsOk S) (hr : S.length * 24 ≤ 140737488351232) :
    Calls Try.prog 3 #[.slice a S.length cap] w fun e w' => e = .returned (.bool true) ∧ Below w.heap.size w w' := by
  have hS' := Lib.hid hS
  have hok' := Lib.hid hok
  clear hS hok
  generalize hlen : S.length = len at hr ⊢
  have hlen' := Lib.hid hlen
  clear hlen
  have len8 : (len : Int) * 24 ≤ 140737488351232 := by omega
  have nw := Lib.hid (fun w1 (o : Only Nil w w1) => two_new (w0 := w) o)
  clear hr
  go_enter Try.func3, Try.ntmps3
  go_wp2_with (first
    | (go_at_call 9; (with_reducible refine (alive_any _).mono ?_); rintro e w1 ⟨rfl, h⟩; have o1 := Lib.hid h; clear h)
    | (go_at_call 10; (with_reducible refine (nw.out _ o1.out).mono ?_); rintro e w2 ⟨rfl, h⟩; have k2 := Lib.hid h; clear h; generalize w1.heap.size = hb at *))
  have P0 : Hid (Pd w (w2.alloc (.cells #[.int .i64 0, .slice none 0 0, .slice none 0 0] 29)) w2.heap.size hb 0 0 [] (.slice none 0 0) (.slice none 0 0)) := Lib.hid (by
    refine ⟨(k2.out.more ((Only.refl Nil w2).alloc _)).mono (fun k hk => .inr (by subst hk; simp)), heap_new w2 _, k2.out.only.size⟩)
  clear k2
  generalize hW0 : (w2.alloc (.cells #[.int .i64 0, .slice none 0 0, .slice none 0 0] 29)) = W0 at P0 ⊢
  clear hW0
  generalize w2.heap.size = br at *
  go_loopw [5] (fun s5 wr => ∃ (i now added : Nat) (L : List Tm) (x y : Value), i ≤ len ∧ i ≤ 100 ∧ now ≤ 600 * i ∧ added ≤ i ∧ s5 = .int .i64 (i : Int) ∧ Hid (Pd w wr br hb now added L x y))
    (fun s5 _ => 100 - (intOf s5).toNat)
  case atStart => exact ⟨0, 0, 0, [], _, _, Nat.zero_le _, Nat.zero_le _, Nat.zero_le _, Nat.zero_le _, rfl, P0⟩
  case round =>
    obtain ⟨i, now, added, L, x, y, hil, hi1, hnow, hadd, rfl, P⟩ := hrel
    by_cases hin : i < len ∧ i < 100
    · have hli : (i : Int) < (len : Int) := by omega
      have hl3 : (i : Int) < 100 := by omega
      obtain ⟨bS, off, rfl, hb1, hb2⟩ := hS'.out i (by rw [hlen'.out]; exact hin.1)
      obtain ⟨x5, x6, x7⟩ := hb2 i (by rw [hlen'.out]; exact hin.1)
      have ok5 := hok'.out i (by rw [hlen'.out]; exact hin.1)
      clear hb2
      generalize S[i]'(by rw [hlen'.out]; exact hin.1) = o at x5 x6 x7 ok5
      obtain ⟨kd, ti, v⟩ := o
      simp only at x5 x6 x7 ok5
      obtain ⟨⟨k50, k51⟩, ⟨k60, k61⟩, hv⟩ := ok5
      obtain ⟨K, rfl⟩ := Int.eq_ofNat_of_zero_le k50
      obtain ⟨I, rfl⟩ := Int.eq_ofNat_of_zero_le k60
      have hI := Lib.hid (show I < 18446744073709551616 by omega)
      have owr : Only Nil w wr := P.out.two.only
      have y5 : wr.cell? ⟨bS, off + i * 3, none⟩ = some (.int .u8 (K : Int)) := (World.cell?_of_block (a := ⟨bS, off + i * 3, none⟩) (owr.block bS hb1 (fun z => z))).trans x5
      have y6 : wr.cell? ⟨bS, off + i * 3 + 1, none⟩ = some (.int .u64 (I : Int)) := (World.cell?_of_block (a := ⟨bS, off + i * 3 + 1, none⟩) (owr.block bS hb1 (fun z => z))).trans x6
      have y7 : wr.cell? ⟨bS, off + i * 3 + 2, none⟩ = some (.int .i64 v) := (World.cell?_of_block (a := ⟨bS, off + i * 3 + 2, none⟩) (owr.block bS hb1 (fun z => z))).trans x7
      have hv' := Lib.hid hv
      have nums := Lib.hid (And.intro hin (And.intro hnow hadd))
      clear x5 x6 x7 hb1 hin hil hi1 hv hnow hadd k50 k60 k61 owr
      have mk1 : Int.tmod (K : Int) 4 = ((K % 4 : Nat) : Int) := rfl
      have mk2 : (K : Int) % 4 = ((K % 4 : Nat) : Int) := rfl
      have hk5 := Nat.mod_lt K (show 0 < 4 by decide)
      have R := Lib.hid (P.out.box (.int .u8 (K : Int)) (.int .u64 (I : Int)) (.int .i64 v))
      obtain ⟨c0, c1, c2, f0, f1, f2, _⟩ := tri_of R.out.op
      obtain ⟨r0, r1, r2, g0, g1, g2, _⟩ := tri_of R.out.rb
      generalize K % 4 = kk at mk1 mk2 hk5
      go_upto_block 2 with (fail)
      generalize (wr.alloc (.cells #[.int .u8 (K : Int), .int .u64 (I : Int), .int .i64 v] 32)) = Wo at *
      generalize wr.heap.size = ob at *
      clear y5 y6 y7
      go_cut [6] (fun s6 wx => s6 = .pointer (some ⟨ob, 0, none⟩) ∧ ∃ (now' added' : Nat) (L' : List Tm) (x' y' : Value), now' ≤ now + 600 ∧ added' ≤ added + 1 ∧ Hid (Rd w wx br ob hb now' added' L' x' y' L' (.int .i64 (now' : Int)) x' y' (.int .u8 (K : Int)) (.int .u64 (I : Int)) (.int .i64 v)))
      case first =>
        clear mk1 mk2
        obtain rfl | rfl | rfl | rfl : kk = 0 ∨ kk = 1 ∨ kk = 2 ∨ kk = 3 := by omega
        · obtain ⟨code, added', L', hle, hc⟩ := rd_add R.out I hI.out v (by have := nums.out; omega)
          have hc' := Lib.hid hc
          have hle' := Lib.hid hle
          clear hc hle
          go_wp2_with (first
            | (go_at_call 11; go_loud ((with_reducible refine (hc'.out).mono ?_); rintro e w3 ⟨x', y', rfl, N, hc2⟩; obtain ⟨⟨a1, b1, rfl⟩, ⟨a2, b2, rfl⟩⟩ := N.two.forms; obtain ⟨d0, d1, d2, _⟩ := tri_of N.op; have N' := Lib.hid N; have hc3 := Lib.hid hc2; clear N hc2))
            | (go_at_call 12; go_loud ((with_reducible refine (hc3.out).mono ?_); rintro e w4 ⟨rfl, N⟩; obtain ⟨e0, e1, e2, _⟩ := tri_of N.nx; obtain ⟨_, _, _, j0, j1, j2, _⟩ := tri_of N.rb; have Q := Lib.hid (N.put (.int .i64 (now : Int)) (.slice a1 L'.length b1) (.slice a2 L'.length b2)); clear N)))
          go_meet
          exact ⟨rfl, now, added', L', _, _, by omega, hle'.out, Q⟩
        · obtain ⟨b, L', hc⟩ := rd_cut R.out I
          have hc' := Lib.hid hc
          clear hc
          go_wp2_with (first
            | (go_at_call 13; go_loud ((with_reducible refine (hc'.out).mono ?_); rintro e w3 ⟨x', y', rfl, N, hc2⟩; obtain ⟨⟨a1, b1, rfl⟩, ⟨a2, b2, rfl⟩⟩ := N.two.forms; obtain ⟨d0, d1, d2, _⟩ := tri_of N.op; have N' := Lib.hid N; have hc3 := Lib.hid hc2; clear N hc2))
            | (go_at_call 14; go_loud ((with_reducible refine (hc3.out).mono ?_); rintro e w4 ⟨rfl, N⟩; obtain ⟨e0, e1, e2, _⟩ := tri_of N.nx; obtain ⟨_, _, _, j0, j1, j2, _⟩ := tri_of N.rb; have Q := Lib.hid (N.put (.int .i64 (now : Int)) (.slice a1 L'.length b1) (.slice a2 L'.length b2)); clear N)))
          go_meet
          exact ⟨rfl, now, added, L', _, _, by omega, by omega, Q⟩
        · obtain ⟨s, hs, hm⟩ := mod_any v 600 (by decide) (by decide)
          have hm' := Lib.hid (fun w => show Calls Try.prog 15 #[.int .i64 v, .int .i64 600] w fun e w' => e = .returned (.int .i64 (s : Int)) ∧ w = w' from hm w)
          have hs' := Lib.hid hs
          clear hm
          clear c0 c1 c2 f0 f1 f2 r0 r1 r2 g0 g1 g2
          go_wp2_with (fail)
          go_loopw [11] (fun s11 wx => ∃ (k now' : Nat) (L' : List Tm) (x' y' : Value), k ≤ s + 1 ∧ now' = now + k ∧ s11 = .int .i64 (k : Int) ∧ Hid (Rd w wx br ob hb now' added L' x' y' L' (.int .i64 (now' : Int)) x' y' (.int .u8 (K : Int)) (.int .u64 (I : Int)) (.int .i64 v)))
            (fun s11 _ => s + 1 - (intOf s11).toNat)
          case atStart => exact ⟨0, now, L, x, y, by omega, rfl, rfl, R⟩
          case round =>
            obtain ⟨k, now', L', x', y', hk, en, rfl, T⟩ := hrel
            obtain ⟨c0, c1, c2, f0, f1, f2, _⟩ := tri_of T.out.op
            obtain ⟨r0, r1, r2, g0, g1, g2, _⟩ := tri_of T.out.rb
            by_cases hks : k ≤ s
            · have hks' : (k : Int) ≤ (s : Int) := by omega
              have hkb : (k : Int) ≤ 600 := by omega
              obtain ⟨N, eN⟩ : ∃ N, N = now' + 1 := ⟨_, rfl⟩
              obtain ⟨L2, Tl, hT, hc⟩ := rd_tick T.out N eN (by have := nums.out; omega)
              have hc' := Lib.hid hc
              have hT' := Lib.hid hT
              have kk' := Lib.hid (And.intro hk (And.intro en (And.intro eN hks)))
              clear hc hT hk en eN hks
              go_wp2_with (first
                | (go_at_call 15; (with_reducible refine (hm'.out _).mono ?_); rintro e w3 ⟨rfl, rfl⟩)
                | (go_at_call 16; go_loud ((with_reducible refine (hc'.out).mono ?_); rintro e w3 ⟨x2, y2, v2, rfl, N2, hc2⟩; obtain ⟨⟨a1, b1, rfl⟩, ⟨a2, b2, rfl⟩⟩ := N2.two.forms; obtain ⟨e0, e1, e2, _⟩ := tri_of N2.nx; obtain ⟨_, _, _, j0, j1, j2, _⟩ := tri_of N2.rb; have hc3 := Lib.hid hc2; clear N2 hc2))
                | (go_at_call 18; go_loud ((with_reducible refine (hc3.out).mono ?_); rintro e w4 ⟨v4, rfl, ⟨o1_, o2_⟩, T4⟩; have sm := Lib.hid (same_any o1_ o2_ hT'.out); have T4' := Lib.hid T4; clear o1_ o2_ T4))
                | (go_at_call 17; go_loud ((with_reducible refine (sm.out).mono ?_); rintro e w5 ⟨rfl, o5⟩; have T5 := Lib.hid (T4'.out.nil o5); clear o5)))
              go_roundw
              case rel =>
                (repeat apply Exists.intro)
                exact ⟨⟨k + 1, N, L2, _, _, by have := kk'.out; omega, by have := kk'.out; omega, by go_num, T5⟩, rfl⟩
              case measure => have := kk'.out; simp [intOf]; omega
            · have hks' : ¬ (k : Int) ≤ (s : Int) := by omega
              go_wp2_with (go_at_call 15; (with_reducible refine (hm'.out _).mono ?_); rintro e w3 ⟨rfl, rfl⟩)
              go_meet
              exact ⟨rfl, now', added, L', x', y', by have := hs'.out; omega, by omega, T⟩
        · go_wp2_with (fail)
          go_meet
          exact ⟨rfl, now, added, L, x, y, by omega, by omega, R⟩
      case rest =>
        clear R P c0 c1 c2 f0 f1 f2 r0 r1 r2 g0 g1 g2 mk1 mk2 hk5
        obtain ⟨rfl, now', added', L', x', y', hn', ha', T⟩ := hcut
        obtain ⟨⟨a1, b1, rfl⟩, ⟨a2, b2, rfl⟩⟩ := T.out.two.forms
        have nums' := Lib.hid (And.intro hn' ha')
        obtain ⟨W1, rfl⟩ : ∃ W1, W1 = wc := ⟨_, rfl⟩
        clear hn' ha'
        have hl64 : (L'.length : Int) ≤ 64 := by have := T.out.two.good.few; omega
        have nw := Lib.hid (fun w' (o : Only Nil W1 w') => (two_now (T.out.two.nil o)).mono (fun e w2 (h : _ ∧ w' = w2) => show e = .returned (.int .i64 (now' : Int)) ∧ Only Nil w' w2 from ⟨h.1, h.2 ▸ Only.refl _ _⟩))
        have ln := Lib.hid (fun w' (o : Only Nil W1 w') => two_len (T.out.two.nil o))
        have tl := Lib.hid (fun w' (o : Only Nil W1 w') (q : Nat) => two_told (T.out.two.nil o) q)
        have ds := Lib.hid (fun w' (o : Only Nil W1 w') => two_ids (T.out.two.nil o))
        have rw' := Lib.hid (fun w' (o : Only Nil W1 w') => two_row (T.out.two.nil o))
        have few := Lib.hid T.out.two.good.few
        have hd : ∀ w', Only Nil W1 w' → (w'.cell? ⟨br, 0, none⟩ = some (.int .i64 (now' : Int)) ∧ w'.cell? ⟨br, 1, none⟩ = some (.slice a1 L'.length b1) ∧ w'.cell? ⟨br, 2, none⟩ = some (.slice a2 L'.length b2) ∧ w'.cell? ⟨ob, 1, none⟩ = some (.int .u64 (I : Int))) := fun w' o => by
          obtain ⟨z0, z1, z2, _⟩ := tri_of (T.out.nil o).rb
          obtain ⟨_, z4, _⟩ := tri_of (T.out.nil o).op
          exact ⟨z0, z1, z2, z4⟩
        have hd' := Lib.hid hd
        obtain ⟨s0, s1, s2, s4⟩ := hd W1 (Only.refl Nil W1)
        clear hd
        generalize hlL : L'.length = m at *
        have hlL' := Lib.hid hlL
        clear hlL
        go_upto_region 28 with (fail)
        go_cut [120] (fun s120 wx => s120 = .bool false ∧ Hid (Only Nil W1 wx))
        case first =>
          go_region_held3 (fun w' => w'.cell? ⟨br, 0, none⟩ = some (.int .i64 (now' : Int)) ∧ w'.cell? ⟨br, 1, none⟩ = some (.slice a1 m b1) ∧ w'.cell? ⟨br, 2, none⟩ = some (.slice a2 m b2) ∧ w'.cell? ⟨ob, 1, none⟩ = some (.int .u64 (I : Int)))
            (first | exact ⟨s0, s1, s2, s4⟩ | exact ks | exact kt | exact ku | exact kv | exact kw | go_keep)
            (first
              | (go_at_call 19; go_loud (refine (nw.out _ ((Only.refl Nil W1).drewN _)).mono ?_; rintro e w7 ⟨rfl, o7_⟩; have o7 := ((Only.refl Nil W1).drewN _).trans o7_; have ks := hd'.out _ o7))
              | (go_at_call 20; go_loud (refine (ln.out _ o7).mono ?_; rintro e w8 ⟨rfl, o8_⟩; have o8 := o7.trans o8_; have kt := hd'.out _ o8))
              | (go_at_call 21; go_loud (refine (tl.out _ o8 I).mono ?_; rintro e w9 ⟨rfl, o9_⟩; have o9 := o8.trans o9_; have ku := hd'.out _ o9))
              | (go_at_call 22; go_loud (refine (ds.out _ o9).mono ?_; rintro e w10 ⟨v10, rfl, ov10, o10_⟩; have o10 := o9.trans o10_; have kv := hd'.out _ o10))
              | (go_at_call 17; go_loud (refine (same_any (M := L') (by rw [hlL'.out]; exact ov10) (by rw [hlL'.out]; exact rw'.out _ o10) (by rw [hlL'.out]; exact few.out)).mono ?_; rintro e wS ⟨rfl, oS_⟩; have oS := o10.trans oS_; have kw := hd'.out _ oS)))
          all_goals (
            go_wp2_with (fail)
            go_meet
            exact ⟨rfl, Lib.hid (by first | exact oS | exact oS.drew | exact oS.drewN _)⟩)
        case rest =>
          clear nw ln ds s0 s1 s2 s4
          obtain ⟨rfl, o28⟩ := hcut
          go_wp2_with (fail)
          go_loopw [14] (fun s14 wx => ∃ j : Nat, j ≤ m ∧ s14 = .int .i64 (j : Int) ∧ Hid (Only Nil W1 wx))
            (fun s14 _ => m - (intOf s14).toNat)
          case atStart => exact ⟨0, Nat.zero_le _, rfl, o28⟩
          case round =>
            obtain ⟨j, hj, rfl, oj⟩ := hrel
            obtain ⟨s0, s1, s2, s4⟩ := hd'.out _ oj.out
            by_cases hjm : j < m
            · have hjm' : (j : Int) < (m : Int) := by omega
              obtain ⟨g, rfl, hgl, hc⟩ := map_in (f := fun t => .int .u64 (t.id : Int)) (rw'.out _ oj.out) j hjm
              have hj' := Lib.hid hjm
              have hjb : (j : Int) < 64 := by omega
              clear hj hjm hgl
              go_wp2_with (fail)
              go_region_with ((go_at_call 21; go_loud (refine (tl.out _ (by first | exact oj.out.drew | exact oj.out.drewN _ | exact oj.out) _).mono ?_; rintro e w9 ⟨rfl, o9_⟩; have o9 := Lib.hid o9_; clear o9_)))
              all_goals (
                go_wp2_with (fail)
                go_roundw
                case rel => exact ⟨j + 1, by have := hj'.out; omega, by go_num, Lib.hid (by first | exact oj.out.trans o9.out | exact oj.out.drew.trans o9.out | exact (oj.out.drewN _).trans o9.out)⟩
                case measure => have := hj'.out; simp [intOf]; omega)
            · have hjm' : ¬ (j : Int) < (m : Int) := by omega
              go_wp2_with (fail)
              go_roundw
              case rel => exact ⟨i + 1, now', added', L', _, _, by have := nums.out; omega, by have := nums.out; omega, by have := nums.out; have := nums'.out; omega, by have := nums.out; have := nums'.out; omega, by go_num, Lib.hid (T.out.pd oj.out)⟩
              case measure => have := nums.out; simp [intOf]; omega
    · by_cases hl : i < len
      · have hl3 : ¬ (i : Int) < 100 := by omega
        have hli : (i : Int) < (len : Int) := by omega
        clear hnow hadd
        go_wp2_with (fail)
        go_ret
        exact ⟨rfl, P.out.two.only.below (Nat.le_refl _) (fun _ h => h.elim)⟩
      · have hli : ¬ (i : Int) < (len : Int) := by omega
        clear hnow hadd
        go_wp2_with (fail)
        go_ret
        exact ⟨rfl, P.out.two.only.below (Nat.le_refl _) (fun _ h => h.elim)⟩
end Go.Proofs.Ytpmgmdlfnlmieaa.Wh
