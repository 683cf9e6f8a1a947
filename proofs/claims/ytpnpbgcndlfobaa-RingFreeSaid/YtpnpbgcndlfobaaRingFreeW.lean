/- RingFree answers true for every number and every list of picks, and turns nothing that there was: the walk. -/
import Derived.Test.YtpnpbgcndlfobaaRingFreeA
namespace Go.Proofs.Ytpnpbgcndlfobaa
open Go.RowKit

/-- i Puts are begun. -/
structure Bg (w1 w : World) (rg B sb n i : Nat) (v7 : Value) (t : Int) (ob : Nat → Nat) : Prop where
  own : w.ownsRow w1.heap.size 40 1 v7 i ((List.range i).map fun j => .pointer (some ⟨ob j, 0, none⟩))
  lw : Lw w1 w rg (B + 1) B 0 8 (zeros (2 + 2 * 8)) t
  op : ∀ p, p < i → Op1 w1 w (ob p) rg (B + 1) B (.put0 (p : Int))
  inj : ∀ p q, p < i → q < i → p ≠ q → ob p ≠ ob q
  sh : w.heap[sb]? = some (.cells (rowC n fun _ => .int .i64 0) 3 (0, 0))
  sg : w1.heap.size ≤ sb
section
variable {w1 w w3 w4 : World} {rg B sb n i : Nat} {v7 v4 : Value} {t : Int} {ob : Nat → Nat}
theorem Bg.next (h : Bg w1 w rg B sb n i v7 t ob) (l3 : Lw w1 w3 rg (B + 1) B 0 8 (zeros (2 + 2 * 8)) t) (q3 : Op1 w1 w3 w.heap.size rg (B + 1) B (.put0 (i : Int))) (o3 : Only Nil w w3) (x : Obj)
    (own4 : w4.ownsRow w1.heap.size 40 1 v4 (i + 1) (((List.range i).map fun j => .pointer (some ⟨ob j, 0, none⟩)) ++ [.pointer (some ⟨w.heap.size, 0, none⟩)])) (g4 : (w3.alloc x).grownBy w4 v7.ownBlock) :
    Bg w1 w4 rg B sb n (i + 1) v4 t (upd ob i w.heap.size) := by
  have oa : Only Nil w3 (w3.alloc x) := (Only.refl Nil w3).alloc x
  have o4 := Only.ofGrown g4
  have ow := own_keep (own_keep h.own o3 (fun _ _ h => h)) oa (fun _ _ h => h)
  have la := l3.nil oa
  have qa := q3.nil oa
  have sha := (oa.block sb (by have := o3.size; have := lt_of_block h.sh; omega) (fun h => h)).trans ((o3.block sb (lt_of_block h.sh) (fun h => h)).trans h.sh)
  have hop : ∀ p, p < i → Op1 w1 (w3.alloc x) (ob p) rg (B + 1) B (.put0 (p : Int)) := fun p hp => ((h.op p hp).nil o3).nil oa
  have opn : ∀ {ob : Nat} {s : OS}, Op1 w1 (w3.alloc x) ob rg (B + 1) B s → ¬ (some ob = v7.ownBlock) := fun {ob s} q => by
    obtain ⟨_, _, _, hc, _⟩ := q.op
    exact own_ne ow hc.head (by decide)
  refine ⟨?_, ?_, ?_, ?_, ?_, h.sg⟩
  · have e : ((List.range (i + 1)).map fun j => Value.pointer (some ⟨upd ob i w.heap.size j, 0, none⟩)) = ((List.range i).map fun j => Value.pointer (some ⟨ob j, 0, none⟩)) ++ [.pointer (some ⟨w.heap.size, 0, none⟩)] := by
      rw [List.range_succ, List.map_append]
      congr 1
      · apply List.map_congr_left
        intro j hj
        have : j < i := by simpa using hj
        rw [upd_other _ _ _ _ (by omega)]
      · simp [upd]
    rw [e]; exact own4
  · exact la.keep o4 (own_ne ow la.rng.ring.head (by decide)) (own_ne ow la.rng.mem.head (by decide)) (own_ne ow la.rng.mem.row (by decide)) (fun k hk => (ow.lt k hk.symm).1)
  · intro p hp
    by_cases e : p = i
    · subst e; rw [upd_same]; exact qa.keep o4 (opn qa)
    · rw [upd_other _ _ _ _ e]; exact (hop p (by omega)).keep o4 (opn (hop p (by omega)))
  · intro p q hp hq hne
    by_cases e : p = i
    · subst e; rw [upd_same, upd_other _ _ _ _ (fun h => hne h.symm)]
      have := (h.op q (by omega)).op.lt; omega
    · by_cases e2 : q = i
      · subst e2; rw [upd_same, upd_other _ _ _ _ e]
        have := (h.op p (by omega)).op.lt; omega
      · rw [upd_other _ _ _ _ e, upd_other _ _ _ _ e2]; exact h.inj p q (by omega) (by omega) hne
  · exact (o4.block sb (lt_of_block sha) (own_ne ow sha (by decide))).trans sha
/-- All are begun. -/
theorem Bg.all (h : Bg w1 w rg B sb n n v7 t ob) (hn : 0 < n) (len : Nat) (T : Int) (tT : t ≤ T) :
    ∃ gb cap, v7 = .slice (some ⟨gb, 0, none⟩) n cap ∧ ∃ P, FrSt w1 w rg B gb sb n len 0 T (zeros (2 + 2 * 8)) t ⟨0, 0, fun _ => 0, fun _ => 0⟩ P (fun _ => 0) (fun _ => 0) ob := by
  obtain ⟨gb, cap, cur, rfl, _, gh, gc⟩ := own_block h.own hn
  refine ⟨gb, cap, rfl, fun p => if p < n then some (.p0, (p : Int)) else none, ⟨tT, h.lw, RgL.fresh 8, FInv.start n _ (fun p hp => by simp [hp]) (fun p hp => by simp [show ¬ p < n by omega]), ?_, h.inj, ⟨cur, gh⟩, gc, h.sh, h.sg, Turns.start _ _ _ _⟩⟩
  intro p hp
  have : osO (fun p => if p < n then some (PS.p0, (p : Int)) else none) (fun _ => 0) p = .put0 (p : Int) := by unfold osO; simp [hp, osP]
  rw [this]; exact h.op p hp
end

/-- Which tickets the first p have. -/
def sn (D : Nat → Nat) (p q : Nat) : Bool := decide (∃ j, j < p ∧ D j = q)
theorem sn_next (D : Nat → Nat) (p : Nat) : (fun q => Value.bool (sn D (p + 1) q)) = upd (fun q => Value.bool (sn D p q)) (D p) (.bool true) := by
  funext q
  by_cases e : q = D p
  · subst e
    rw [upd_same]
    have : sn D (p + 1) (D p) = true := by simp only [sn, decide_eq_true_eq]; exact ⟨p, by omega, rfl⟩
    rw [this]
  · rw [upd_other _ _ _ _ e]
    congr 1
    simp only [sn]
    congr 1
    apply propext
    constructor
    · rintro ⟨j, hj, h⟩
      refine ⟨j, ?_, h⟩
      rcases Nat.lt_or_ge j p with g | g
      · exact g
      · have : j = p := by omega
        subst this; exact absurd h.symm e
    · rintro ⟨j, hj, h⟩
      exact ⟨j, by omega, h⟩

set_option maxRecDepth 100000 in
set_option maxHeartbeats 16000000 in
theorem free_walk (k : Int) (a : Option Addr) (cap : Nat) (V : List Int) (n : Nat) (w : World) (hn : 1 ≤ n ∧ n ≤ 8) (e1 : 1 + k % 8 = (n : Int)) (hk : 0 ≤ k ∧ k < 256) (hV : RowK .u8 w a V) (hu : ∀ j, 0 ≤ V.getD j 0 ∧ V.getD j 0 < 256) (hr : V.length * 1 ≤ 140737488351232) :
    Calls Try.prog 9 #[.int .u8 k, .slice a V.length cap] w fun e w' => e = .returned (.bool true) ∧ Below w.heap.size w w' := by
  have md := Lib.hid (fun w => made_any 8 w (by decide) (by decide))
  simp only [show ((8 : Nat) : Int) = 8 from rfl] at md
  have hmk := fun (w : World) => run_make_row' (P := Try.prog) 62 3 (.int .i64 0) 8 Try.underlying62 Try.infoInt rfl .i64 .i64 n (by omega) (by omega) w
  have hmb := fun (w : World) => run_make_row' (P := Try.prog) 77 4 (.bool false) 1 Try.underlying77 Try.infoBool rfl .i64 .i64 n (by omega) (by omega) w
  simp only [made_row] at hmk hmb
  obtain ⟨i0, hi0, hz0, hz1, hz2⟩ := info_parts Try.infoOpP
  have hu7 := Try.underlying35
  obtain ⟨x1, x2⟩ := hk
  have e1' := Lib.hid e1
  have hn' := Lib.hid hn
  have hV' := Lib.hid hV
  have hu' := Lib.hid hu
  have n8 : (n : Int) ≤ 8 := by omega
  clear e1 hn hV hu
  generalize hlen : V.length = len at hr ⊢
  have hlen' := Lib.hid hlen
  clear hlen
  have len8 : (len : Int) ≤ 140737488351232 := by omega
  rw [← e1'.out] at hmk hmb
  go_enter Try.func9, Try.ntmps9
  go_wp2_with (first
    | (go_at_call 10; (with_reducible refine (alive_any _).mono ?_); rintro e w1 ⟨rfl, o1⟩)
    | (go_at_call 30; (with_reducible refine (md.out _).mono ?_); rintro e w2 ⟨rg, rfl, l2⟩))
  rw [e1'.out] at hmb ⊢
  clear hmk
  have ow := Lib.hid o1
  have B0 : Hid (Bg w1 ((w2.alloc (.cells #[] 40)).alloc (.cells (rowC n fun _ => .int .i64 0) 3)) rg w1.heap.size (w2.heap.size + 1) n 0 (.slice (some ⟨w2.heap.size, 0, none⟩) 0 0) (2 + 2 * 8) (fun _ => 0)) := Lib.hid
    ⟨(World.ownsRow_made w2 #[] 0 l2.only.size (by unfold maxLen; omega) (by simp)).alloc _, (l2.nil ((Only.refl Nil w2).alloc _)).nil ((Only.refl Nil _).alloc _), fun p hp => by omega, fun p q hp => by omega,
      by have := heap_new (w2.alloc (.cells #[] 40)) (.cells (rowC n fun _ => .int .i64 0) 3); simpa using this, by have := l2.only.size; omega⟩
  clear o1 l2
  generalize ((w2.alloc (.cells #[] 40)).alloc (.cells (rowC n fun _ => .int .i64 0) 3)) = W0 at B0 ⊢
  generalize w2.heap.size = o0 at B0 ⊢
  generalize hB : w1.heap.size = B at B0
  have hB' := Lib.hid hB
  clear hB
  go_loopw [7, 9] (fun s7 s9 wr => ∃ i : Nat, i ≤ n ∧ s9 = .int .i64 (i : Int) ∧ Hid (∃ ob, Bg w1 wr rg B (o0 + 1) n i s7 (2 + 2 * 8) ob))
    (fun _ s9 _ => n - (intOf s9).toNat)
  case atStart => exact ⟨0, Nat.zero_le _, rfl, Lib.hid ⟨_, B0.out⟩⟩
  case round =>
    obtain ⟨i, hi, rfl, hh⟩ := hrel
    obtain ⟨ob, hb⟩ := hh.out
    by_cases hin : i < n
    · have hii : (i : Int) < (n : Int) := by omega
      have ek : IntKind.u64.wrap (i : Int) = (i : Int) := by rw [IntKind.wrap_u64]; omega
      have pp := Lib.hid (hb.lw.put (i : Int))
      obtain ⟨a7, c7, rfl⟩ := own_slice_n hb.own
      have hb' := Lib.hid hb
      have hbs := Lib.hid hb.lw.only.size
      obtain ⟨xs, hxs⟩ : ∃ xs, xs = ((List.range i).map fun j => Value.pointer (some ⟨ob j, 0, none⟩)) := ⟨_, rfl⟩
      have hxs' := Lib.hid hxs
      have hown : Hid (wr.ownsRow w1.heap.size 40 1 (.slice a7 i c7) i xs) := Lib.hid (hxs ▸ hb.own)
      have i8 := Lib.hid (And.intro hin hin)
      clear hb hh hxs hi hin
      go_wp2_with (first
        | (go_at_call 29; (with_reducible refine (pp.out).mono ?_); rintro e w3 ⟨rfl, l3, q3, o3, z3⟩)
        | (at_builtin; refine wpList_append_own _ rfl (.tmp 32) (.tmp 37) 35 rfl w1.heap.size 40 i0 (.pointer none) 1 8 hu7 hi0 hz0 hz1 hz2 rfl (by decide) (.slice a7 i c7) i xs rfl ((own_keep hown.out o3 (fun _ _ h => h)).alloc _) ⟨w3.heap.size, 0, none⟩ 1 1 [.pointer (some ⟨wr.heap.size, 0, none⟩)] rfl rfl (src_one (heap_new w3 (.cells #[.pointer (some ⟨wr.heap.size, 0, none⟩)] 40))) (by intro u hu; simp at hu; subst hu; rfl) (by have := i8.out; have := hn'.out; unfold maxLen; omega) (by have := i8.out; have := hn'.out; omega) (Nat.le_trans hbs.out (by have := o3.size; simp; omega)) ?_))
      intro v4 w4 hv4 hg4 hn4
      have nx := Lib.hid (hb'.out.next l3 q3 o3 _ (hxs'.out ▸ hv4) hg4)
      clear l3 q3 o3 z3 hv4 hg4 hn4
      go_wp2
      go_roundw
      case rel => exact ⟨i + 1, by have := i8.out; omega, by go_num, Lib.hid ⟨_, nx.out⟩⟩
      case measure => have := i8.out; simp [intOf]; omega
    · have hni : n = i := by omega
      subst hni
      have hii : ¬ ((n : Int) < (n : Int)) := by omega
      obtain ⟨gb, c7, rfl, P0, F0⟩ := hb.all (by have := hn'.out; omega) len (18 + ((0 : Nat) : Int)) (by omega)
      have F0' := Lib.hid F0
      clear hb hh F0 hi hin B0
      generalize wr = wo at F0' ⊢
      go_wp2
      go_loopw [10] (fun s10 wr => ∃ i : Nat, i ≤ len + 40 * n ∧ s10 = .int .i64 (i : Int) ∧ Hid (∃ L t R P D st, FrSt w1 wr rg B gb (o0 + 1) n len i (18 + (i : Int)) L t R P D st ob))
        (fun s10 _ => len + 40 * n - (intOf s10).toNat)
      case atStart => exact ⟨0, Nat.zero_le _, rfl, Lib.hid ⟨_, _, _, _, _, _, F0'.out⟩⟩
      case round =>
        obtain ⟨i, hi, rfl, hh⟩ := hrel
        obtain ⟨L, t, R, P, D, st, F⟩ := hh.out
        by_cases hin : i < len + 40 * n
        · have hii : (i : Int) < (len : Int) + 40 * (n : Int) := by omega
          have n0 : ¬ ((n : Int) = 0) := by have := hn'.out; omega
          have mt : Int.tmod (i : Int) (n : Int) = ((i % n : Nat) : Int) := rfl
          have me : (i : Int) % (n : Int) = ((i % n : Nat) : Int) := rfl
          have mr := Nat.mod_lt i (show 0 < n by have := hn'.out; omega)
          clear hi
          by_cases hil : i < len
          · have hli : (i : Int) < (len : Int) := by omega
            obtain ⟨b, off, rfl, hb1, hb2⟩ := (hV'.out.keep (ow.out.trans F.lw.only)) i (by rw [hlen'.out]; exact hil)
            have hx : wr.cell? ⟨b, off + i, none⟩ = some (.int .u8 (V.getD i 0)) := hb2 i (by rw [hlen'.out]; exact hil)
            obtain ⟨y0, y1⟩ := hu'.out i
            clear hb2
            generalize V.getD i 0 = x at hx y0 y1
            have wx : IntKind.i64.wrap x = x := IntWalk.i64_in _ (by omega)
            obtain ⟨y, rfl⟩ := Int.eq_ofNat_of_zero_le y0
            have mt2 : Int.tmod (y : Int) (n : Int) = ((y % n : Nat) : Int) := rfl
            have me2 : (y : Int) % (n : Int) = ((y % n : Nat) : Int) := rfl
            have hp := Nat.mod_lt y (show 0 < n by have := hn'.out; omega)
            generalize y % n = p at mt2 me2 hp
            generalize i % n = r at mt me mr
            clear mr
            obtain ⟨cc, ff⟩ : wr.cell? ⟨gb, p, none⟩ = some (.pointer (some ⟨ob p, 0, none⟩)) ∧ (st p : Int) ≤ 26 := ⟨F.gc p hp, by have := F.fi.steps p hp; have := hn'.out; omega⟩
            have p0 : (p : Int) < (n : Int) := by omega
            have ov := Lib.hid (F.over p hp)
            have F' := Lib.hid F
            have sc := Lib.hid (F.lw.step (F.op p hp) (F.nums hn'.out.2) (by have := F.tT; have := hn'.out; omega))
            have hp' := Lib.hid hp
            have pk := Lib.hid (show i < len ∨ p = i % n from .inl hil)
            have hi2 := Lib.hid hin
            rcases hPp : P p with _ | ⟨s, v⟩
            · rw [hPp] at ov
              have sk := Lib.hid (F.skip hp pk.out hPp)
              simp only [Option.isNone] at ov
              clear F hh hin hp hil hPp
              go_wp2_with (go_at_call 15; (with_reducible refine (ov.out).mono ?_); rintro e w3 ⟨rfl, rfl⟩)
              go_roundw
              case rel => exact ⟨i + 1, by have := hi2.out; omega, by go_num, Lib.hid ⟨_, _, _, _, _, _, by have := sk.out; rw [show (18 : Int) + (i : Int) + 1 = 18 + ((i + 1 : Nat) : Int) by omega] at this; exact this⟩⟩
              case measure => have := hi2.out; simp [intOf]; omega
            · rw [hPp] at ov
              simp only [Option.isNone] at ov
              have hPp' := Lib.hid hPp
              clear F hh hin hp hil hPp
              go_wp2_with (first
                | (go_at_call 15; (with_reducible refine (ov.out).mono ?_); rintro e w3 ⟨rfl, rfl⟩)
                | (go_at_call 18; (with_reducible refine (sc.out).mono ?_); rintro e w4 ⟨rfl, l4, q4, o4⟩; obtain ⟨c4, f4, nx⟩ := FrSt.next hn'.out.2 F'.out hp'.out pk.out hPp'.out l4 q4 o4))
              go_roundw
              case rel => exact ⟨i + 1, by have := hi2.out; omega, by go_num, Lib.hid (by obtain ⟨L', t', R', P', D', st', h⟩ := nx.out; rw [show (18 : Int) + (i : Int) + 1 = 18 + ((i + 1 : Nat) : Int) by omega] at h; exact ⟨L', t', R', P', D', st', h⟩)⟩
              case measure => have := hi2.out; simp [intOf]; omega
          · have hli : ¬ ((i : Int) < (len : Int)) := by omega
            generalize hr3 : i % n = p at mt me mr
            have hr4 := Lib.hid hr3
            clear hr3
            have hp := mr
            obtain ⟨cc, ff⟩ : wr.cell? ⟨gb, p, none⟩ = some (.pointer (some ⟨ob p, 0, none⟩)) ∧ (st p : Int) ≤ 26 := ⟨F.gc p hp, by have := F.fi.steps p hp; have := hn'.out; omega⟩
            have p0 : (p : Int) < (n : Int) := by omega
            have ov := Lib.hid (F.over p hp)
            have F' := Lib.hid F
            have sc := Lib.hid (F.lw.step (F.op p hp) (F.nums hn'.out.2) (by have := F.tT; have := hn'.out; omega))
            have hp' := Lib.hid hp
            have pk := Lib.hid (show i < len ∨ p = i % n from .inr hr4.out.symm)
            have hi2 := Lib.hid hin
            rcases hPp : P p with _ | ⟨s, v⟩
            · rw [hPp] at ov
              have sk := Lib.hid (F.skip hp pk.out hPp)
              simp only [Option.isNone] at ov
              clear F hh hin hp hil hPp mr
              go_wp2_with (go_at_call 15; (with_reducible refine (ov.out).mono ?_); rintro e w3 ⟨rfl, rfl⟩)
              go_roundw
              case rel => exact ⟨i + 1, by have := hi2.out; omega, by go_num, Lib.hid ⟨_, _, _, _, _, _, by have := sk.out; rw [show (18 : Int) + (i : Int) + 1 = 18 + ((i + 1 : Nat) : Int) by omega] at this; exact this⟩⟩
              case measure => have := hi2.out; simp [intOf]; omega
            · rw [hPp] at ov
              simp only [Option.isNone] at ov
              have hPp' := Lib.hid hPp
              clear F hh hin hp hil hPp mr
              go_wp2_with (first
                | (go_at_call 15; (with_reducible refine (ov.out).mono ?_); rintro e w3 ⟨rfl, rfl⟩)
                | (go_at_call 18; (with_reducible refine (sc.out).mono ?_); rintro e w4 ⟨rfl, l4, q4, o4⟩; obtain ⟨c4, f4, nx⟩ := FrSt.next hn'.out.2 F'.out hp'.out pk.out hPp'.out l4 q4 o4))
              go_roundw
              case rel => exact ⟨i + 1, by have := hi2.out; omega, by go_num, Lib.hid (by obtain ⟨L', t', R', P', D', st', h⟩ := nx.out; rw [show (18 : Int) + (i : Int) + 1 = 18 + ((i + 1 : Nat) : Int) by omega] at h; exact ⟨L', t', R', P', D', st', h⟩)⟩
              case measure => have := hi2.out; simp [intOf]; omega
        · have hin2 : i = len + 40 * n := by omega
          subst hin2
          have hii : ¬ (((len + 40 * n : Nat) : Int) < (len : Int) + 40 * (n : Int)) := by omega
          have hov := Lib.hid (fun p hp => F.tu.over hn'.out.2 F.fi p hp)
          have F' := Lib.hid F
          clear F hh hi hin F0'
          generalize wr = wF at F' ⊢
          go_wp2
          generalize hz : wF.heap.size = zb
          have hz' := Lib.hid hz
          have Z0 : Hid ((wF.alloc (.cells (rowC n fun _ => .bool false) 4)).heap[zb]? = some (.cells (rowC n fun q => .bool (sn D 0 q)) 4 (0, 0))) := Lib.hid (by
            rw [← hz, show (fun q => Value.bool (sn D 0 q)) = (fun _ => Value.bool false) from funext (fun q => by simp [sn])]; exact heap_new wF _)
          have A0 := Lib.hid ((Only.refl Nil wF).alloc (.cells (rowC n fun _ => .bool false) 4))
          clear hz
          generalize (wF.alloc (.cells (rowC n fun _ => .bool false) 4)) = W9 at Z0 A0 ⊢
          go_loopw [13] (fun s13 ws => ∃ p : Nat, p ≤ n ∧ s13 = .int .i64 (p : Int) ∧ Hid (ws.heap[zb]? = some (.cells (rowC n fun q => .bool (sn D p q)) 4 (0, 0))) ∧ Hid (Only (fun k => k = zb) W9 ws))
            (fun s13 _ => n - (intOf s13).toNat)
          case atStart => exact ⟨0, Nat.zero_le _, rfl, Z0, Lib.hid (Only.refl _ _)⟩
          case round =>
            obtain ⟨p, hp, rfl, hZ, hO⟩ := hrel
            have OF := Lib.hid (A0.out.next hO.out (fun q hq hl => by have := hz'.out; omega))
            by_cases hpn : p < n
            · have p0 : (p : Int) < (n : Int) := by omega
              have en : IntKind.u64.wrap (n : Int) = (n : Int) := by rw [IntKind.wrap_u64]; omega
              obtain ⟨cur, gh⟩ := F'.out.gh
              have cc : wr.cell? ⟨gb, p, none⟩ = some (.pointer (some ⟨ob p, 0, none⟩)) := by
                rw [World.cell?_of_block (a := ⟨gb, p, none⟩) (OF.out.block gb (lt_of_block gh) (fun h => h))]; exact F'.out.gc p hpn
              have cs : wr.cell? ⟨o0 + 1, p, none⟩ = some (.int .i64 (st p : Int)) := by
                rw [World.cell?_of_block (a := ⟨o0 + 1, p, none⟩) (OF.out.block (o0 + 1) (lt_of_block F'.out.sh) (fun h => h))]; exact F'.out.cell p hpn
              have eo : osO P D p = .over 1 0 (D p) := by unfold osO; rw [hov.out p hpn]
              have Q := (F'.out.op p hpn).nil OF.out
              rw [eo] at Q
              have tc := Lib.hid (ticketO Q.op)
              have oc := Lib.hid (outcomeO Q.op)
              have dn := F'.out.fi.ticket p hpn (hov.out p hpn)
              have g2 : decide (3 * (n : Int) + 2 < (st p : Int)) = false := by have := F'.out.fi.steps p hpn; simp; omega
              have g3 : decide ((n : Int) ≤ (D p : Int)) = false := by simp; omega
              have cz : wr.cell? ⟨zb, D p, none⟩ = some (.bool false) := by
                rw [row_cell hZ.out (D p) dn]
                have : sn D p (D p) = false := by
                  simp only [sn, decide_eq_false_iff_not]
                  rintro ⟨j, hj, e⟩
                  have := F'.out.fi.unlike j p (by omega) hpn (hov.out j (by omega)) (hov.out p hpn) e
                  omega
                rw [this]
              have fz : wr.frozen? ⟨zb, D p, none⟩ = false := row_frozen hZ.out _
              have dn' : (D p : Int) < (n : Int) := by omega
              have hp2 := Lib.hid hpn
              have Z1 : Hid ((wr.setCell ⟨zb, D p, none⟩ (.bool true)).heap[zb]? = some (.cells (rowC n fun q => .bool (sn D (p + 1) q)) 4 (0, 0))) := Lib.hid (by
                rw [row_set hZ.out (D p) (.bool true), ← sn_next])
              have O1 := Lib.hid (hO.out.setCell (p := ⟨zb, D p, none⟩) rfl (.bool true))
              have hk1 : OS.k (.over 1 0 (D p)) = (D p : Int) := rfl
              have ho1 : OS.o (.over 1 0 (D p)) = 1 := rfl
              rw [hk1] at tc
              rw [ho1] at oc
              clear Q eo dn hp hpn gh hk1 ho1
              generalize D p = d at *
              generalize st p = sp at *
              go_wp2_with (first
                | (go_at_call 36; (with_reducible refine (tc.out).mono ?_); rintro e w3 ⟨rfl, rfl⟩)
                | (go_at_call 35; (with_reducible refine (oc.out).mono ?_); rintro e w3 ⟨rfl, rfl⟩))
              go_roundw
              case rel => exact ⟨p + 1, by have := hp2.out; omega, by go_num, Z1, O1⟩
              case measure => have := hp2.out; simp [intOf]; omega
            · have hpn2 : n = p := by omega
              have p0 : ¬ ((p : Int) < (n : Int)) := by omega
              clear hp hpn hpn2
              go_wp2
              go_ret
              exact ⟨rfl, ((ow.out.trans F'.out.lw.only).trans OF.out).below (Nat.le_refl _) (fun _ h => h.elim)⟩

theorem free_all (k : Int) (a : Option Addr) (cap : Nat) (V : List Int) (w : World) (hk : 0 ≤ k ∧ k < 256) (hV : RowK .u8 w a V) (hu : ∀ n ∈ V, (Lit.int .u8 n).wf = true) (hr : V.length * 1 ≤ 140737488351232) :
    Calls Try.prog 9 #[.int .u8 k, .slice a V.length cap] w fun e w' => e = .returned (.bool true) ∧ Below w.heap.size w w' :=
  free_walk k a cap V (1 + k % 8).toNat w (by omega) (by omega) hk hV (u8s_of_wf hu) hr
end Go.Proofs.Ytpnpbgcndlfobaa
