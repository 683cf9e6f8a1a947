/- GateFree answers true for every filling, every list of kinds and of picks, and turns nothing that there was: the walk. -/
import Derived.Test.YtokopocldicnmaaGtFreeA
namespace Go.Proofs.Ytokopocldicnmaa.Gt
open Go.RowKit

def FlS (w1 w : World) (g B T0 : Nat) (tm : Int) : Prop := ∃ L t, Lw w1 w g (B + 1) B 0 8 L t ∧ Fl L T0 ∧ t ≤ tm
def FlO (w1 w : World) (g B T0 : Nat) (tm : Int) (ob : Nat) (v : Int) : Prop := ∃ L t, Lw w1 w g (B + 1) B 0 8 L t ∧ Op1 w1 w ob g (B + 1) B (.s0 (.put v)) ∧ Fl L T0 ∧ t ≤ tm
theorem FlS.put {w1 w : World} {g B T0 : Nat} {tm : Int} (h : FlS w1 w g B T0 tm) (v : Int) (hv : In64 v) :
    Calls Try.prog 26 #[.pointer (some ⟨g, 0, none⟩), .int .u64 v] w fun e w' => ∃ ob, e = .returned (.pointer (some ⟨ob, 0, none⟩)) ∧ FlO w1 w' g B T0 tm ob v := by
  obtain ⟨L, t, l, a, ht⟩ := h
  refine (l.put v hv).mono ?_
  rintro e w' ⟨rfl, l', q', _, _⟩
  exact ⟨_, rfl, L, t, l', q', a, ht⟩
theorem FlO.done {w1 w : World} {g B T0 ob : Nat} {tm v : Int} (h : FlO w1 w g B T0 tm ob v) (hT : T0 < 8) (ht : tm < 1000000000) :
    Calls Try.prog 38 #[.pointer (some ⟨ob, 0, none⟩)] w fun e w' => e = .returned (.tuple #[.int .i64 1, .int .u64 0, .int .i64 5]) ∧ FlS w1 w' g B (T0 + 1) (tm + 5) := by
  obtain ⟨L, t, l, o, a, ht2⟩ := h
  obtain ⟨L', r, a'⟩ := a.put hT v
  refine (l.done o r (by decide) (by omega)).mono ?_
  rintro e w' ⟨rfl, l', _, _⟩
  exact ⟨rfl, L', _, l', a', by omega⟩
theorem own_nilG (w : World) (b : Nat) : w.ownsRow b 55 1 (.slice none 0 0) 0 [] := World.ownsRow_nil _ _ _ _

set_option maxRecDepth 100000 in
set_option maxHeartbeats 16000000 in
theorem free_walk (k : Int) (a2 a : Option Addr) (cap2 cap : Nat) (Z : List Bool) (V : List Int) (f n : Nat) (w : World) (hk : 0 ≤ k ∧ k < 256) (e1 : k % 9 = (f : Int)) (hf : f ≤ 8) (hnz : min Z.length 8 = n) (hn : 1 ≤ n) (hZ : RowBo w a2 Z) (hrZ : Z.length * 1 ≤ 140737488351232) (hV : RowK .u8 w a V) (hu : ∀ j, 0 ≤ V.getD j 0 ∧ V.getD j 0 < 256) (hr : V.length * 1 ≤ 140737488351232) :
    Calls Try.prog 9 #[.int .u8 k, .slice a2 Z.length cap2, .slice a V.length cap] w fun e w' => e = .returned (.bool true) ∧ Below w.heap.size w w' := by
  have md := Lib.hid (fun w => made_any 8 w (by decide) (by decide))
  simp only [show ((8 : Nat) : Int) = 8 from rfl] at md
  have hmk := fun (w : World) => run_make_row' (P := Try.prog) 33 3 (.int .i64 0) 8 Try.underlying33 Try.infoInt rfl .i64 .i64 n (by omega) (by omega) w
  simp only [made_row] at hmk
  obtain ⟨i0, hi0, hz0, hz1, hz2⟩ := info_parts Try.infoOpG
  have hu7 := Try.underlying51
  obtain ⟨x1, x2⟩ := hk
  have e1' := Lib.hid e1
  have hnn := hn
  have hn' := Lib.hid (show 1 ≤ n ∧ n ≤ 8 by omega)
  have hV' := Lib.hid hV
  have hZ' := Lib.hid hZ
  have hu' := Lib.hid hu
  have f8 := Lib.hid hf
  have n8 : (n : Int) ≤ 8 := by omega
  have n0 : ¬ ((n : Int) = 0) := by omega
  have nb0 : ((n : Int) == 0) = false := by simpa using n0
  have hmn : min (Z.length : Int) 8 = (n : Int) := by omega
  have hnz' := Lib.hid hnz
  clear e1 hn hV hu hZ hf hnn hnz
  generalize hlen : V.length = len at hr ⊢
  have hlen' := Lib.hid hlen
  clear hlen
  have len8 : (len : Int) ≤ 140737488351232 := by omega
  generalize hln : Z.length = ln at hrZ hmn hnz' ⊢
  have hln' := Lib.hid hln
  clear hln
  have ln8 : (ln : Int) ≤ 140737488351232 := by omega
  go_enter Try.func9, Try.ntmps9
  go_wp2_with (first
    | (go_at_call 19; (with_reducible refine (alive_any _).mono ?_); rintro e w1 ⟨rfl, o1⟩)
    | (go_at_call 37; (with_reducible refine (md.out _).mono ?_); rintro e w2 ⟨rg, rfl, l2⟩))
  have ow := Lib.hid o1
  have F0 : Hid (FlS w1 w2 rg w1.heap.size 0 (18 + 5 * ((0 : Nat) : Int))) := Lib.hid ⟨_, _, l2, ⟨_, [], RgL.fresh 8, Rest.start (by decide), rfl, rfl, by omega⟩, by omega⟩
  have e12 := Lib.hid l2.only.size
  clear o1 l2 md nb0
  generalize hB : w1.heap.size = B at F0
  have hB' := Lib.hid hB
  clear hB
  go_loopw [9] (fun s9 wr => ∃ i : Nat, i ≤ f ∧ s9 = .int .i64 (i : Int) ∧ Hid (FlS w1 wr rg B i (18 + 5 * (i : Int))))
    (fun s9 _ => f - (intOf s9).toNat)
  case atStart => exact ⟨0, Nat.zero_le _, rfl, F0⟩
  case round =>
    obtain ⟨i, hi, rfl, hh⟩ := hrel
    by_cases hif : i < f
    · have hii : (i : Int) < k % 9 := by have := e1'.out; omega
      have iw : IntKind.u64.wrap (i : Int) = (i : Int) := by have := f8.out; rw [IntKind.wrap_u64]; omega
      have pu := Lib.hid (hh.out.put (i : Int) (by have := f8.out; unfold In64; omega))
      have dn := Lib.hid (fun w' ob (h : FlO w1 w' rg B i (18 + 5 * (i : Int)) ob (i : Int)) => h.done (by have := f8.out; omega) (by have := f8.out; omega))
      have hi2 := Lib.hid hif
      clear hh hi hif
      go_wp2_with (first
        | (go_at_call 26; (with_reducible refine (pu.out).mono ?_); rintro e w3 ⟨ob3, rfl, h3⟩)
        | (go_at_call 38; (with_reducible refine (dn.out _ _ h3).mono ?_); rintro e w4 ⟨rfl, h4⟩; have h4' := Lib.hid h4; clear h3 h4))
      go_roundw
      case rel => exact ⟨i + 1, by have := hi2.out; omega, by go_num, Lib.hid (by have h := h4'.out; rw [show (18 : Int) + 5 * (i : Int) + 5 = 18 + 5 * ((i + 1 : Nat) : Int) by omega] at h; exact h)⟩
      case measure => have := hi2.out; simp [intOf]; omega
    · obtain rfl : i = f := by omega
      have hii : ¬ ((i : Int) < k % 9) := by have := e1'.out; omega
      have H2 := Lib.hid hh.out
      clear hh hi hif F0
      generalize wr = wf at H2 ⊢
      obtain ⟨L, t, l2, fl, tt⟩ := H2.out
      go_wp2_with (fail)
      have B0 : Hid (Bg w1 (wf.alloc (.cells (rowC n fun _ => .int .i64 0) 3)) rg B wf.heap.size n 0 i (.slice none 0 0) L t (fun _ => 0) (fun _ => .take)) := Lib.hid
        ⟨(own_nilG _ _), l2.nil ((Only.refl Nil _).alloc _), fun p hp => by omega, fun p q hp => by omega, heap_new wf _, by have := l2.only.size; omega⟩
      have fl' := Lib.hid fl
      have tt' := Lib.hid tt
      have sw := Lib.hid (l2.only.size)
      clear l2 fl tt H2 hmk
      generalize (wf.alloc (.cells (rowC n fun _ => .int .i64 0) 3)) = W0 at B0 ⊢
      generalize wf.heap.size = sb at B0 sw ⊢
      go_loopw [10, 12] (fun s10 s12 wr => ∃ j : Nat, j ≤ n ∧ s12 = .int .i64 (j : Int) ∧ Hid (∃ ob dd, Bg w1 wr rg B sb n j i s10 L t ob dd))
        (fun _ s12 _ => n - (intOf s12).toNat)
      case atStart => exact ⟨0, Nat.zero_le _, rfl, Lib.hid ⟨_, _, B0.out⟩⟩
      case round =>
        obtain ⟨j, hj, rfl, hh⟩ := hrel
        obtain ⟨ob, dd, hb⟩ := hh.out
        by_cases hjn : j < n
        · have hjj : (j : Int) < (n : Int) := by omega
          have jl : j < ln := by have := hnz'.out; omega
          have jl' : (j : Int) < (ln : Int) := by omega
          obtain ⟨bz, offz, rfl, hz1_, hz2_⟩ := hZ'.out j (by rw [hln'.out]; exact jl)
          have hx : wr.cell? ⟨bz, offz + j, none⟩ = some (.bool (Z.getD j false)) := (World.cell?_of_block (a := ⟨bz, offz + j, none⟩) ((ow.out.trans hb.lw.only).block bz hz1_ (fun h => h))).trans (hz2_ j (by rw [hln'.out]; exact jl))
          clear hz1_ hz2_ jl
          obtain ⟨a7, c7, rfl⟩ := own_slice_n hb.own
          have hb' := Lib.hid hb
          have hbs := Lib.hid hb.lw.only.size
          obtain ⟨xs, hxs⟩ : ∃ xs, xs = ((List.range j).map fun j => Value.pointer (some ⟨ob j, 0, none⟩)) := ⟨_, rfl⟩
          have hxs' := Lib.hid hxs
          have hown : Hid (wr.ownsRow w1.heap.size 55 1 (.slice a7 j c7) j xs) := Lib.hid (hxs ▸ hb.own)
          have i8 := Lib.hid hjn
          have jw1 : IntKind.u64.wrap (100 + (j : Int)) = 100 + (j : Int) := by have := hn'.out; rw [IntKind.wrap_u64]; omega
          have pt := Lib.hid (hb.lw.take)
          have pp := Lib.hid (hb.lw.put (100 + (j : Int)) (by have := hn'.out; unfold In64; omega))
          clear hb hh hxs hj hjn
          rcases hbool : Z.getD j false with _ | _
          · rw [hbool] at hx
            clear hbool pt
            go_wp2_with (first
              | (go_at_call 26; (with_reducible refine (pp.out).mono ?_); rintro e w3 ⟨rfl, l3, q3, o3, z3⟩)
              | (at_builtin; refine wpList_append_own _ rfl (.tmp 58) (.tmp 64) 51 rfl w1.heap.size 55 i0 (.pointer none) 1 8 hu7 hi0 hz0 hz1 hz2 rfl (by decide) (.slice a7 j c7) j xs rfl ((own_keep hown.out o3 (fun _ _ h => h)).alloc _) ⟨w3.heap.size, 0, none⟩ 1 1 [.pointer (some ⟨wr.heap.size, 0, none⟩)] rfl rfl (src_one (heap_new w3 (.cells #[.pointer (some ⟨wr.heap.size, 0, none⟩)] 55))) (by intro u hu; simp at hu; subst hu; rfl) (by have := i8.out; have := hn'.out; unfold maxLen; omega) (by have := i8.out; have := hn'.out; omega) (Nat.le_trans hbs.out (by have := o3.size; simp; omega)) ?_))
            intro v4 w4 hv4 hg4 hn4
            have nx := Lib.hid (hb'.out.next l3 q3 o3 _ (hxs'.out ▸ hv4) hg4)
            clear l3 q3 o3 z3 hv4 hg4 hn4
            go_wp2
            go_roundw
            case rel => exact ⟨j + 1, by have := i8.out; omega, by go_num, Lib.hid ⟨_, _, nx.out⟩⟩
            case measure => have := i8.out; simp [intOf]; omega
          · rw [hbool] at hx
            clear hbool pp jw1
            go_wp2_with (first
              | (go_at_call 25; (with_reducible refine (pt.out).mono ?_); rintro e w3 ⟨rfl, l3, q3, o3, z3⟩)
              | (at_builtin; refine wpList_append_own _ rfl (.tmp 53) (.tmp 56) 51 rfl w1.heap.size 55 i0 (.pointer none) 1 8 hu7 hi0 hz0 hz1 hz2 rfl (by decide) (.slice a7 j c7) j xs rfl ((own_keep hown.out o3 (fun _ _ h => h)).alloc _) ⟨w3.heap.size, 0, none⟩ 1 1 [.pointer (some ⟨wr.heap.size, 0, none⟩)] rfl rfl (src_one (heap_new w3 (.cells #[.pointer (some ⟨wr.heap.size, 0, none⟩)] 55))) (by intro u hu; simp at hu; subst hu; rfl) (by have := i8.out; have := hn'.out; unfold maxLen; omega) (by have := i8.out; have := hn'.out; omega) (Nat.le_trans hbs.out (by have := o3.size; simp; omega)) ?_))
            intro v4 w4 hv4 hg4 hn4
            have nx := Lib.hid (hb'.out.next l3 q3 o3 _ (hxs'.out ▸ hv4) hg4)
            clear l3 q3 o3 z3 hv4 hg4 hn4
            go_wp2
            go_roundw
            case rel => exact ⟨j + 1, by have := i8.out; omega, by go_num, Lib.hid ⟨_, _, nx.out⟩⟩
            case measure => have := i8.out; simp [intOf]; omega
        · have hnj : n = j := by omega
          subst hnj
          have hjj : ¬ ((n : Int) < (n : Int)) := by omega
          obtain ⟨gb, c7, rfl, R0, P0, od0, F0⟩ := hb.all (by have := hn'.out; omega) len (60 + ((0 : Nat) : Int)) (by have := tt'.out; have := f8.out; omega) fl'.out
          have F0' := Lib.hid F0
          clear hb hh F0 hj hjn B0
          generalize wr = wo at F0' ⊢
          go_wp2
          go_loopw [13] (fun s13 wr => ∃ i' : Nat, i' ≤ len + 40 * n ∧ s13 = .int .i64 (i' : Int) ∧ Hid (∃ L t R P st od, FrSt w1 wr rg B gb sb n len i' i (60 + (i' : Int)) L t R P st od ob))
            (fun s13 _ => len + 40 * n - (intOf s13).toNat)
          case atStart => exact ⟨0, Nat.zero_le _, rfl, Lib.hid ⟨_, _, _, _, _, _, F0'.out⟩⟩
          case round =>
            obtain ⟨i', hi, rfl, hh⟩ := hrel
            obtain ⟨L, t, R, P, st, od, F⟩ := hh.out
            by_cases hin : i' < len + 40 * n
            · have hii : (i' : Int) < (len : Int) + 40 * (n : Int) := by omega
              have n0 : ¬ ((n : Int) = 0) := by have := hn'.out; omega
              have mt : Int.tmod (i' : Int) (n : Int) = ((i' % n : Nat) : Int) := rfl
              have me : (i' : Int) % (n : Int) = ((i' % n : Nat) : Int) := rfl
              have mr := Nat.mod_lt i' (show 0 < n by have := hn'.out; omega)
              clear hi
              by_cases hil : i' < len
              · have hli : (i' : Int) < (len : Int) := by omega
                obtain ⟨b, off, rfl, hb1, hb2⟩ := (hV'.out.keep (ow.out.trans F.lw.only)) i' (by rw [hlen'.out]; exact hil)
                have hx : wr.cell? ⟨b, off + i', none⟩ = some (.int .u8 (V.getD i' 0)) := hb2 i' (by rw [hlen'.out]; exact hil)
                obtain ⟨y0, y1⟩ := hu'.out i'
                clear hb2
                generalize V.getD i' 0 = x at hx y0 y1
                have wx : IntKind.i64.wrap x = x := IntWalk.i64_in _ (by omega)
                obtain ⟨y, rfl⟩ := Int.eq_ofNat_of_zero_le y0
                have mt2 : Int.tmod (y : Int) (n : Int) = ((y % n : Nat) : Int) := rfl
                have me2 : (y : Int) % (n : Int) = ((y % n : Nat) : Int) := rfl
                have hp := Nat.mod_lt y (show 0 < n by have := hn'.out; omega)
                generalize y % n = p at mt2 me2 hp
                generalize i' % n = r at mt me mr
                clear mr
                obtain ⟨cc, ff⟩ : wr.cell? ⟨gb, p, none⟩ = some (.pointer (some ⟨ob p, 0, none⟩)) ∧ (st p : Int) ≤ 26 := ⟨F.gc p hp, by have := F.steps p hp; have := hn'.out; omega⟩
                have p0 : (p : Int) < (n : Int) := by omega
                have ov := Lib.hid (F.over p hp)
                have F' := Lib.hid F
                have sc := Lib.hid (F.lw.step (F.op p hp) (by have := F.tT; have := hn'.out; omega))
                have hp' := Lib.hid hp
                have pk := Lib.hid (show i' < len ∨ p = i' % n from .inl hil)
                have hi2 := Lib.hid hin
                rcases hPp : P p with _ | ⟨d, s⟩
                · rw [hPp] at ov
                  have sk := Lib.hid (F.skip hp pk.out hPp)
                  simp only [Option.isNone] at ov
                  clear F hh hin hp hil hPp
                  go_wp2_with (go_at_call 24; (with_reducible refine (ov.out).mono ?_); rintro e w3 ⟨rfl, rfl⟩)
                  go_roundw
                  case rel => exact ⟨i' + 1, by have := hi2.out; omega, by go_num, Lib.hid ⟨_, _, _, _, _, _, by have := sk.out; rw [show (60 : Int) + (i' : Int) + 1 = 60 + ((i' + 1 : Nat) : Int) by omega] at this; exact this⟩⟩
                  case measure => have := hi2.out; simp [intOf]; omega
                · rw [hPp] at ov
                  simp only [Option.isNone] at ov
                  have hPp' := Lib.hid hPp
                  clear F hh hin hp hil hPp
                  go_wp2_with (first
                    | (go_at_call 24; (with_reducible refine (ov.out).mono ?_); rintro e w3 ⟨rfl, rfl⟩)
                    | (go_at_call 28; (with_reducible refine (sc.out).mono ?_); rintro e w4 ⟨rfl, l4, q4, o4⟩; obtain ⟨c4, f4, nx⟩ := FrSt.next hn'.out.2 F'.out hp'.out pk.out hPp'.out l4 q4 o4))
                  go_roundw
                  case rel => exact ⟨i' + 1, by have := hi2.out; omega, by go_num, Lib.hid (by obtain ⟨L', t', R', P', D', st', h⟩ := nx.out; rw [show (60 : Int) + (i' : Int) + 1 = 60 + ((i' + 1 : Nat) : Int) by omega] at h; exact ⟨L', t', R', P', D', st', h⟩)⟩
                  case measure => have := hi2.out; simp [intOf]; omega
              · have hli : ¬ ((i' : Int) < (len : Int)) := by omega
                generalize hr3 : i' % n = p at mt me mr
                have hr4 := Lib.hid hr3
                clear hr3
                have hp := mr
                obtain ⟨cc, ff⟩ : wr.cell? ⟨gb, p, none⟩ = some (.pointer (some ⟨ob p, 0, none⟩)) ∧ (st p : Int) ≤ 26 := ⟨F.gc p hp, by have := F.steps p hp; have := hn'.out; omega⟩
                have p0 : (p : Int) < (n : Int) := by omega
                have ov := Lib.hid (F.over p hp)
                have F' := Lib.hid F
                have sc := Lib.hid (F.lw.step (F.op p hp) (by have := F.tT; have := hn'.out; omega))
                have hp' := Lib.hid hp
                have pk := Lib.hid (show i' < len ∨ p = i' % n from .inr hr4.out.symm)
                have hi2 := Lib.hid hin
                rcases hPp : P p with _ | ⟨d, s⟩
                · rw [hPp] at ov
                  have sk := Lib.hid (F.skip hp pk.out hPp)
                  simp only [Option.isNone] at ov
                  clear F hh hin hp hil hPp mr
                  go_wp2_with (go_at_call 24; (with_reducible refine (ov.out).mono ?_); rintro e w3 ⟨rfl, rfl⟩)
                  go_roundw
                  case rel => exact ⟨i' + 1, by have := hi2.out; omega, by go_num, Lib.hid ⟨_, _, _, _, _, _, by have := sk.out; rw [show (60 : Int) + (i' : Int) + 1 = 60 + ((i' + 1 : Nat) : Int) by omega] at this; exact this⟩⟩
                  case measure => have := hi2.out; simp [intOf]; omega
                · rw [hPp] at ov
                  simp only [Option.isNone] at ov
                  have hPp' := Lib.hid hPp
                  clear F hh hin hp hil hPp mr
                  go_wp2_with (first
                    | (go_at_call 24; (with_reducible refine (ov.out).mono ?_); rintro e w3 ⟨rfl, rfl⟩)
                    | (go_at_call 28; (with_reducible refine (sc.out).mono ?_); rintro e w4 ⟨rfl, l4, q4, o4⟩; obtain ⟨c4, f4, nx⟩ := FrSt.next hn'.out.2 F'.out hp'.out pk.out hPp'.out l4 q4 o4))
                  go_roundw
                  case rel => exact ⟨i' + 1, by have := hi2.out; omega, by go_num, Lib.hid (by obtain ⟨L', t', R', P', D', st', h⟩ := nx.out; rw [show (60 : Int) + (i' : Int) + 1 = 60 + ((i' + 1 : Nat) : Int) by omega] at h; exact ⟨L', t', R', P', D', st', h⟩)⟩
                  case measure => have := hi2.out; simp [intOf]; omega
            · have hin2 : i' = len + 40 * n := by omega
              subst hin2
              have hii : ¬ (((len + 40 * n : Nat) : Int) < (len : Int) + 40 * (n : Int)) := by omega
              have hov := Lib.hid (show ∀ p, p < n → P p = none from fun p hp => by obtain ⟨dk, dr, vo, G⟩ := F.fi; exact F.tu.over hn'.out.2 G p hp)
              have F' := Lib.hid F
              clear F hh hi hin F0'
              generalize wr = wF at F' ⊢
              go_wp2
              go_loopw [15] (fun s15 ws => ∃ p : Nat, p ≤ n ∧ s15 = .int .i64 (p : Int) ∧ Hid (Only Nil wF ws))
                (fun s15 _ => n - (intOf s15).toNat)
              case atStart => exact ⟨0, Nat.zero_le _, rfl, Lib.hid (Only.refl _ _)⟩
              case round =>
                obtain ⟨p, hp, rfl, hO⟩ := hrel
                by_cases hpn : p < n
                · have p0 : (p : Int) < (n : Int) := by omega
                  have G := F'.out.keepN hO.out
                  have cc := G.gc p hpn
                  have cs := G.cell p hpn
                  have ov := Lib.hid (G.over p hpn)
                  rw [hov.out p hpn] at ov
                  simp only [Option.isNone] at ov
                  have g2 : ¬ (3 * (n : Int) + 2 < (st p : Int)) := by have := G.steps p hpn; omega
                  have hp2 := Lib.hid hpn
                  clear G hp hpn
                  generalize st p = sp at *
                  go_wp2_with (first
                    | (go_at_call 24; (with_reducible refine (ov.out).mono ?_); rintro e w3 ⟨rfl, rfl⟩))
                  go_roundw
                  case rel => exact ⟨p + 1, by have := hp2.out; omega, by go_num, hO⟩
                  case measure => have := hp2.out; simp [intOf]; omega
                · have hpn2 : n = p := by omega
                  have p0 : ¬ ((p : Int) < (n : Int)) := by omega
                  clear hp hpn hpn2
                  go_wp2
                  go_ret
                  exact ⟨rfl, ((ow.out.trans F'.out.lw.only).trans hO.out).below (Nat.le_refl _) (fun _ h => h.elim)⟩

set_option maxRecDepth 100000 in
theorem free_zero (k : Int) (a2 a : Option Addr) (cap2 cap len : Nat) (w : World) :
    Calls Try.prog 9 #[.int .u8 k, .slice a2 0 cap2, .slice a len cap] w fun e w' => e = .returned (.bool true) ∧ Below w.heap.size w w' := by
  have md := Lib.hid (fun w => made_any 8 w (by decide) (by decide))
  simp only [show ((8 : Nat) : Int) = 8 from rfl] at md
  go_enter Try.func9, Try.ntmps9
  go_wp2_with (first
    | (go_at_call 19; (with_reducible refine (alive_any _).mono ?_); rintro e w1 ⟨rfl, o1⟩)
    | (go_at_call 37; (with_reducible refine (md.out _).mono ?_); rintro e w2 ⟨rg, rfl, l2⟩))
  go_ret
  exact ⟨rfl, (o1.trans l2.only).below (Nat.le_refl _) (fun _ h => h.elim)⟩
theorem free_all (k : Int) (a2 a : Option Addr) (cap2 cap : Nat) (Z : List Bool) (V : List Int) (w : World) (hk : 0 ≤ k ∧ k < 256) (hZ : RowBo w a2 Z) (hrZ : Z.length * 1 ≤ 140737488351232) (hV : RowK .u8 w a V) (hu : ∀ n ∈ V, (Lit.int .u8 n).wf = true) (hr : V.length * 1 ≤ 140737488351232) :
    Calls Try.prog 9 #[.int .u8 k, .slice a2 Z.length cap2, .slice a V.length cap] w fun e w' => e = .returned (.bool true) ∧ Below w.heap.size w w' := by
  rcases Nat.eq_zero_or_pos Z.length with h | h
  · rw [h]; exact free_zero k a2 a cap2 cap V.length w
  · exact free_walk k a2 a cap2 cap Z V (k % 9).toNat (min Z.length 8) w hk (by omega) (by omega) rfl (by omega) hZ hrZ hV (u8s_of_wf hu) hr
end Go.Proofs.Ytokopocldicnmaa.Gt
