/- LedgerOnce: the walk. -/
import Derived.Test.YtlhdecjpjpnlhaaLgH
namespace Go.Proofs.Ytlhdecjpjpnlhaa.Lg
open Go.RowKit Go.Proofs.Ytlhdecjpjpnlhaa

theorem whOf_ac {L : List Ms} (g : Good L) (x : Int) (ok : (Lit.int .u64 x).wf = true) (p id : Int) : whOf (acL L x ok p) id = if (held p = true ∧ whOf L x = 0) ∧ x = id then p else whOf L id := by
  unfold acL
  by_cases h : held p = true ∧ whOf L x = 0
  · rw [if_pos h, whOf_snoc (L := L) ⟨x, p, ok⟩ (whOf_notin g h.2)]
    by_cases e : x = id
    · rw [if_pos e, if_pos ⟨h, e⟩]
    · rw [if_neg e, if_neg (fun h => e h.2)]
  · rw [if_neg h, if_neg (fun h' => h h'.1)]
theorem whOf_mv (L : List Ms) (x p id : Int) : whOf (mvL L x p) id = if (held p = true ∧ held (whOf L x) = true) ∧ x = id then p else whOf L id := by
  unfold mvL
  by_cases h : held p = true ∧ held (whOf L x) = true
  · rw [if_pos h, whOf_set p (fun e => by have := h.2; rw [e] at this; cases this)]
    by_cases e : x = id
    · rw [if_pos e, if_pos ⟨h, e⟩]
    · rw [if_neg e, if_neg (fun h => e h.2)]
  · rw [if_neg h, if_neg (fun h' => h h'.1)]
theorem whOf_en (L : List Ms) (x p id : Int) : whOf (enL L x p) id = if held (whOf L x) = true ∧ x = id then p else whOf L id := by
  unfold enL
  by_cases h : held (whOf L x) = true
  · rw [if_pos h, whOf_set p (fun e => by have := h; rw [e] at this; cases this)]
    by_cases e : x = id
    · rw [if_pos e, if_pos ⟨h, e⟩]
    · rw [if_neg e, if_neg (fun h => e h.2)]
  · rw [if_neg h, if_neg (fun h' => h h'.1)]

theorem once_step {L : List Ms} (g : Good L) (o : Op) (id : Int) :
    (¬ (o.id = id ∧ clE L o = 0) → whOf (clL L o) id = whOf L id) ∧
    (o.id = id → clE L o = 0 → (o.m 4 = 0 ∧ whOf L id = 0 ∧ 1 ≤ whOf (clL L o) id ∧ whOf (clL L o) id ≤ 6) ∨ (o.m 4 = 1 ∧ 1 ≤ whOf L id ∧ whOf L id ≤ 6 ∧ 1 ≤ whOf (clL L o) id ∧ whOf (clL L o) id ≤ 6) ∨
      ((o.m 4 = 2 ∨ o.m 4 = 3) ∧ 1 ≤ whOf L id ∧ whOf L id ≤ 6 ∧ 7 ≤ whOf (clL L o) id ∧ whOf (clL L o) id ≤ 8)) := by
  have hm4 : o.m 4 < 4 := Nat.mod_lt _ (by decide)
  unfold clE clL
  by_cases h0 : o.m 4 = 0
  · rw [if_pos h0, if_pos h0, whOf_ac g]
    unfold acE
    refine ⟨fun h => if_neg (fun hh => h ⟨hh.2, by rw [if_pos hh.1.1, if_pos hh.1.2]⟩), fun e he => ?_⟩
    cases hp : held o.wh
    · rw [hp] at he; cases he
    · rw [hp, if_pos rfl] at he
      by_cases hz : whOf L o.id = 0
      · rw [if_pos ⟨⟨rfl, hz⟩, e⟩]
        have := (held_iff _).1 hp
        exact .inl ⟨h0, by rw [← e]; exact hz, this.1, this.2⟩
      · rw [if_neg hz] at he; cases he
  · rw [if_neg h0, if_neg h0]
    by_cases h1 : o.m 4 = 1
    · rw [if_pos h1, if_pos h1, whOf_mv]
      unfold mvE
      refine ⟨fun h => if_neg (fun hh => h ⟨hh.2, by rw [if_pos hh.1.1, if_pos hh.1.2]⟩), fun e he => ?_⟩
      cases hp : held o.wh
      · rw [hp] at he; cases he
      · cases hq : held (whOf L o.id)
        · rw [hp, hq] at he; cases he
        · rw [if_pos ⟨⟨rfl, rfl⟩, e⟩]
          have := (held_iff _).1 hp
          have h2 := (held_iff _).1 hq
          rw [e] at h2
          exact .inr (.inl ⟨h1, h2.1, h2.2, this.1, this.2⟩)
    · rw [if_neg h1, if_neg h1]
      have hen : ∀ q : Int, 7 ≤ q → q ≤ 8 → (¬ (o.id = id ∧ enE L o.id = 0) → whOf (enL L o.id q) id = whOf L id) ∧ (o.id = id → enE L o.id = 0 → 1 ≤ whOf L id ∧ whOf L id ≤ 6 ∧ 7 ≤ whOf (enL L o.id q) id ∧ whOf (enL L o.id q) id ≤ 8) := by
        intro q q7 q8
        rw [whOf_en]
        unfold enE
        refine ⟨fun h => if_neg (fun hh => h ⟨hh.2, by rw [if_pos hh.1]⟩), fun e he => ?_⟩
        cases hq : held (whOf L o.id)
        · rw [hq] at he; cases he
        · rw [if_pos ⟨rfl, e⟩]
          have h2 := (held_iff _).1 hq
          rw [e] at h2
          exact ⟨h2.1, h2.2, q7, q8⟩
      by_cases h2 : o.m 4 = 2
      · rw [if_pos h2]
        obtain ⟨e1, e2⟩ := hen 7 (by decide) (by decide)
        exact ⟨e1, fun a b => .inr (.inr ⟨.inl h2, e2 a b⟩)⟩
      · rw [if_neg h2]
        obtain ⟨e1, e2⟩ := hen 8 (by decide) (by decide)
        exact ⟨e1, fun a b => .inr (.inr ⟨.inr (by omega), e2 a b⟩)⟩

def endsOf (y : Int) : Int := if 7 ≤ y then 1 else 0
def yes (y : Int) : Bool := decide (1 ≤ y)

set_option maxRecDepth 100000 in
set_option maxHeartbeats 8000000 in
theorem once_all (a : Option Addr) (cap : Nat) (X : List Op) (id : Int) (hid : (Lit.int .u64 id).wf = true) (w : World) (hX : OpsIn w a X) (hr : X.length * 24 ≤ 140737488351232) :
    Calls Try.prog 4 #[.slice a X.length cap, .int .u64 id] w fun e w' => e = .returned (.bool true) ∧ Below w.heap.size w w' := by
  have hX' := Lib.hid hX
  have hid' := Lib.hid hid
  clear hX hid
  generalize hlen : X.length = len at hr ⊢
  have hlen' := Lib.hid hlen
  clear hlen
  have len8 : (len : Int) * 24 ≤ 140737488351232 := by omega
  clear hr
  go_enter Try.func4, Try.ntmps4
  go_wp2_with (first
    | (go_at_call 7; (with_reducible refine (alive_any _).mono ?_); rintro e w1 ⟨rfl, h⟩; have o1 := Lib.hid h; clear h)
    | (go_at_call 8; (with_reducible refine (mine_new w _ o1.out).mono ?_); rintro e w2 ⟨rfl, h⟩; obtain ⟨S, hA, hS, hO⟩ := h; have k2 := Lib.hid hA; have S0 := Lib.hid hS; have n2 := Lib.hid hO; clear hA hS hO; generalize w1.heap.size + 2 = hb at *))
  go_loopw [6, 7, 8, 9, 10, 11] (fun s6 s7 s8 s9 _ _ wr => ∃ (i : Nat) (L : List Ms), i ≤ len ∧ i ≤ 400 ∧ s6 = .int .i64 (endsOf (whOf L id)) ∧ s7 = .int .i64 (whOf L id) ∧ s8 = .bool (yes (whOf L id)) ∧ s9 = .int .i64 (i : Int) ∧ Hid (L.length ≤ i) ∧ Hid (At wr S hb L) ∧ Hid (Only Nil w wr))
    (fun _ _ _ s9 _ _ _ => 1000 - (intOf s9).toNat)
  case atStart => exact ⟨0, [], Nat.zero_le _, Nat.zero_le _, rfl, rfl, rfl, rfl, Lib.hid (Nat.le_refl _), k2, n2⟩
  case round =>
    obtain ⟨i, L, hil, hi1, rfl, rfl, rfl, rfl, hn, hm, ho⟩ := hrel
    have hy := whOf_le hm.out.good id
    by_cases hin : i < len ∧ i < 400
    · have hli : (i : Int) < (len : Int) := by omega
      have hl3 : (i : Int) < 400 := by omega
      obtain ⟨bS, off, rfl, hb1, hb2⟩ := hX'.out i (by rw [hlen'.out]; exact hin.1)
      obtain ⟨x5, x6, x7⟩ := hb2 i (by rw [hlen'.out]; exact hin.1)
      clear hb2
      generalize X.getD i default = o at x5 x6 x7
      have owr : Only Nil w wr := ho.out
      have y5 : wr.cell? ⟨bS, off + i * 3, none⟩ = some (.int .u8 o.k) := (World.cell?_of_block (a := ⟨bS, off + i * 3, none⟩) (owr.block bS hb1 (fun z => z))).trans x5
      have y6 : wr.cell? ⟨bS, off + i * 3 + 1, none⟩ = some (.int .u64 o.id) := (World.cell?_of_block (a := ⟨bS, off + i * 3 + 1, none⟩) (owr.block bS hb1 (fun z => z))).trans x6
      have y7 : wr.cell? ⟨bS, off + i * 3 + 2, none⟩ = some (.int .i64 o.wh) := (World.cell?_of_block (a := ⟨bS, off + i * 3 + 2, none⟩) (owr.block bS hb1 (fun z => z))).trans x7
      obtain ⟨W1, hW1⟩ : ∃ W1, W1 = wr.alloc (.cells #[.int .u8 o.k, .int .u64 o.id, .int .i64 o.wh] 31) := ⟨_, rfl⟩
      have oW : Only Nil wr W1 := by rw [hW1]; exact (Only.refl Nil wr).alloc _
      have bW : W1.heap[wr.heap.size]? = some (.cells #[.int .u8 o.k, .int .u64 o.id, .int .i64 o.wh] 31 (0, 0)) := by rw [hW1]; exact heap_new _ _
      have d0 : W1.cell? ⟨wr.heap.size, 0, none⟩ = some (.int .u8 o.k) := by simp [World.cell?, bW]
      have d1 : W1.cell? ⟨wr.heap.size, 1, none⟩ = some (.int .u64 o.id) := by simp [World.cell?, bW]
      have d2 : W1.cell? ⟨wr.heap.size, 2, none⟩ = some (.int .i64 o.wh) := by simp [World.cell?, bW]
      have cl := call_at (hm.out.nil oW) o (by have := hn.out; omega)
      have st := once_step hm.out.good o id
      have hL' := clL_le L o
      obtain ⟨K, hK⟩ := Int.eq_ofNat_of_zero_le o.k0.1
      have hm4 : o.m 4 = K % 4 := by unfold Op.m; rw [hK]; rfl
      have hK' := Lib.hid o.k0.2
      have keep := Lib.hid (fun (w3 : World) (o3 : Only S W1 w3) => show w3.cell? ⟨wr.heap.size, 0, none⟩ = some (.int .u8 o.k) ∧ w3.cell? ⟨wr.heap.size, 1, none⟩ = some (.int .u64 o.id) from by
        have e := (o3.block _ (lt_of_block bW) (fun s => by have := hm.out.lt _ s; omega)).trans bW
        exact ⟨by simp [World.cell?, e], by simp [World.cell?, e]⟩)
      have wh := Lib.hid (fun (w3 : World) (h3 : At w3 S hb (clL L o)) => where_any h3 id hid'.out)
      rw [hm4] at st
      have mk1 : Int.tmod (K : Int) 4 = ((K % 4 : Nat) : Int) := rfl
      have mk2 : (K : Int) % 4 = ((K % 4 : Nat) : Int) := rfl
      rw [hK] at y5 d0 cl hK' keep bW hW1
      have cl' := Lib.hid cl
      clear cl
      generalize clE L o = ev at *
      generalize hLn : clL L o = Ln at *
      have fin := Lib.hid (fun (wx : World) (hx : At wx S hb Ln) (ox : Only S W1 wx) => show L.length ≤ i → Ln.length ≤ i + 1 ∧ At wx S hb Ln ∧ Only Nil w wx from fun h => ⟨by omega, hx, (owr.trans oW).then ox (fun q hq hlt => by have := S0.out q hq; omega)⟩)
      have nums := Lib.hid (And.intro hin (And.intro hi1 hil))
      clear x5 x6 x7 hb1 hin hil hi1 owr oW bW hLn hL' hm4 hK hm
      generalize o.id = x at *
      generalize o.wh = p at *
      generalize K % 4 = kk at mk1 mk2 st
      generalize hyL : whOf L id = y at *
      generalize hyN : whOf Ln id = yn at *
      have hyN' := Lib.hid hyN
      clear hyL hyN
      go_upto_region 10 with (fail)
      rw [← hW1]
      clear hW1
      go_upto_region 11 with (go_at_call 17; (with_reducible refine cl'.out.mono ?_); rintro e w3 ⟨rfl, h3, o3⟩; obtain ⟨e0, e1⟩ := keep.out _ o3; have wc := Lib.hid (wh.out _ h3); have f3 := Lib.hid (fin.out _ h3 o3 hn.out); clear h3 o3)
      generalize wr.heap.size = ob at *
      clear y5 y6 y7 d0 d1 d2 cl' keep wh fin hn
      have hcase : Hid ((y = 0 ∧ endsOf y = 0 ∧ yes y = false) ∨ ((1 ≤ y ∧ y ≤ 6) ∧ endsOf y = 0 ∧ yes y = true) ∨ (7 ≤ y ∧ endsOf y = 1 ∧ yes y = true)) := Lib.hid (by
        unfold endsOf yes
        by_cases h0 : y = 0
        · subst h0; exact .inl ⟨rfl, rfl, rfl⟩
        · by_cases h7 : 7 ≤ y
          · rw [if_pos h7]; exact .inr (.inr ⟨h7, rfl, decide_eq_true (by omega)⟩)
          · rw [if_neg h7]; exact .inr (.inl ⟨by omega, rfl, decide_eq_true (by omega)⟩))
      obtain ⟨st1, st2⟩ := st
      by_cases hit : x = id ∧ ev = 0
      · obtain ⟨rfl, rfl⟩ := hit
        clear st1
        rcases st2 rfl rfl with ⟨rfl, rfl, z1, z6⟩ | ⟨rfl, z1, z2, z3, z4⟩ | ⟨hk, z1, z2, z3, z4⟩
        · have t1 : yn < 7 := by omega
          have t2 : 0 < yn := by omega
          have q2 : endsOf 0 = 0 := rfl
          have q3 : yes 0 = false := rfl
          have n2 : endsOf yn = 0 := if_neg (by omega)
          have n3 : yes yn = true := decide_eq_true (by omega)
          rw [q2, q3]
          clear q2 q3 st2
          go_wp2_with (go_at_call 10; (with_reducible refine wc.out.mono ?_); rintro e w' ⟨rfl, rfl⟩)
          refine ⟨?rel, ?measure⟩
          case rel => exact ⟨i + 1, Ln, by have := nums.out; omega, by have := nums.out; omega, congrArg (Value.int .i64) (by rw [hyN'.out]; exact n2.symm), congrArg (Value.int .i64) hyN'.out.symm, congrArg Value.bool (by rw [hyN'.out]; exact n3.symm), by go_num, Lib.hid f3.out.1, Lib.hid f3.out.2.1, Lib.hid f3.out.2.2⟩
          case measure => simp [intOf]; omega
        · have t1 : yn < 7 := by omega
          have t2 : 0 < yn := by omega
          have q2 : endsOf y = 0 := if_neg (by omega)
          have q3 : yes y = true := decide_eq_true (by omega)
          have n2 : endsOf yn = 0 := if_neg (by omega)
          have n3 : yes yn = true := decide_eq_true (by omega)
          rw [q2, q3]
          clear q2 q3 st2
          go_wp2_with (go_at_call 10; (with_reducible refine wc.out.mono ?_); rintro e w' ⟨rfl, rfl⟩)
          refine ⟨?rel, ?measure⟩
          case rel => exact ⟨i + 1, Ln, by have := nums.out; omega, by have := nums.out; omega, congrArg (Value.int .i64) (by rw [hyN'.out]; exact n2.symm), congrArg (Value.int .i64) hyN'.out.symm, congrArg Value.bool (by rw [hyN'.out]; exact n3.symm), by go_num, Lib.hid f3.out.1, Lib.hid f3.out.2.1, Lib.hid f3.out.2.2⟩
          case measure => simp [intOf]; omega
        · have t1 : 7 ≤ yn := by omega
          have t2 : 0 < yn := by omega
          have t3 : y < 7 := by omega
          have q2 : endsOf y = 0 := if_neg (by omega)
          have q3 : yes y = true := decide_eq_true (by omega)
          have n2 : endsOf yn = 1 := if_pos (by omega)
          have n3 : yes yn = true := decide_eq_true (by omega)
          rw [q2, q3]
          clear q2 q3 st2
          rcases hk with rfl | rfl
          · go_wp2_with (go_at_call 10; (with_reducible refine wc.out.mono ?_); rintro e w' ⟨rfl, rfl⟩)
            refine ⟨?rel, ?measure⟩
            case rel => exact ⟨i + 1, Ln, by have := nums.out; omega, by have := nums.out; omega, congrArg (Value.int .i64) (by rw [hyN'.out]; exact n2.symm), congrArg (Value.int .i64) hyN'.out.symm, congrArg Value.bool (by rw [hyN'.out]; exact n3.symm), by go_num, Lib.hid f3.out.1, Lib.hid f3.out.2.1, Lib.hid f3.out.2.2⟩
            case measure => simp [intOf]; omega
          · go_wp2_with (go_at_call 10; (with_reducible refine wc.out.mono ?_); rintro e w' ⟨rfl, rfl⟩)
            refine ⟨?rel, ?measure⟩
            case rel => exact ⟨i + 1, Ln, by have := nums.out; omega, by have := nums.out; omega, congrArg (Value.int .i64) (by rw [hyN'.out]; exact n2.symm), congrArg (Value.int .i64) hyN'.out.symm, congrArg Value.bool (by rw [hyN'.out]; exact n3.symm), by go_num, Lib.hid f3.out.1, Lib.hid f3.out.2.1, Lib.hid f3.out.2.2⟩
            case measure => simp [intOf]; omega
      · have hyy := st1 hit
        subst hyy
        clear st1 st2 mk1 mk2
        rcases hcase.out with ⟨rfl, q2, q3⟩ | ⟨⟨z1, z2⟩, q2, q3⟩ | ⟨z1, q2, q3⟩
        · rw [q2, q3]
          by_cases hx : x = id
          · have hev : ¬ ev = 0 := fun h => hit ⟨hx, h⟩
            clear hit
            go_wp2_with (go_at_call 10; (with_reducible refine wc.out.mono ?_); rintro e w' ⟨rfl, rfl⟩)
            refine ⟨?rel, ?measure⟩
            case rel => exact ⟨i + 1, Ln, by have := nums.out; omega, by have := nums.out; omega, congrArg (Value.int .i64) (by rw [hyN'.out]; exact q2.symm), congrArg (Value.int .i64) hyN'.out.symm, congrArg Value.bool (by rw [hyN'.out]; exact q3.symm), by go_num, Lib.hid f3.out.1, Lib.hid f3.out.2.1, Lib.hid f3.out.2.2⟩
            case measure => simp [intOf]; omega
          · clear hit
            go_wp2_with (go_at_call 10; (with_reducible refine wc.out.mono ?_); rintro e w' ⟨rfl, rfl⟩)
            refine ⟨?rel, ?measure⟩
            case rel => exact ⟨i + 1, Ln, by have := nums.out; omega, by have := nums.out; omega, congrArg (Value.int .i64) (by rw [hyN'.out]; exact q2.symm), congrArg (Value.int .i64) hyN'.out.symm, congrArg Value.bool (by rw [hyN'.out]; exact q3.symm), by go_num, Lib.hid f3.out.1, Lib.hid f3.out.2.1, Lib.hid f3.out.2.2⟩
            case measure => simp [intOf]; omega
        · rw [q2, q3]
          have t1 : yn < 7 := by omega
          have t2 : 0 < yn := by omega
          by_cases hx : x = id
          · have hev : ¬ ev = 0 := fun h => hit ⟨hx, h⟩
            clear hit
            go_wp2_with (go_at_call 10; (with_reducible refine wc.out.mono ?_); rintro e w' ⟨rfl, rfl⟩)
            refine ⟨?rel, ?measure⟩
            case rel => exact ⟨i + 1, Ln, by have := nums.out; omega, by have := nums.out; omega, congrArg (Value.int .i64) (by rw [hyN'.out]; exact q2.symm), congrArg (Value.int .i64) hyN'.out.symm, congrArg Value.bool (by rw [hyN'.out]; exact q3.symm), by go_num, Lib.hid f3.out.1, Lib.hid f3.out.2.1, Lib.hid f3.out.2.2⟩
            case measure => simp [intOf]; omega
          · clear hit
            go_wp2_with (go_at_call 10; (with_reducible refine wc.out.mono ?_); rintro e w' ⟨rfl, rfl⟩)
            refine ⟨?rel, ?measure⟩
            case rel => exact ⟨i + 1, Ln, by have := nums.out; omega, by have := nums.out; omega, congrArg (Value.int .i64) (by rw [hyN'.out]; exact q2.symm), congrArg (Value.int .i64) hyN'.out.symm, congrArg Value.bool (by rw [hyN'.out]; exact q3.symm), by go_num, Lib.hid f3.out.1, Lib.hid f3.out.2.1, Lib.hid f3.out.2.2⟩
            case measure => simp [intOf]; omega
        · rw [q2, q3]
          have t2 : 0 < yn := by omega
          by_cases hx : x = id
          · have hev : ¬ ev = 0 := fun h => hit ⟨hx, h⟩
            clear hit
            go_wp2_with (go_at_call 10; (with_reducible refine wc.out.mono ?_); rintro e w' ⟨rfl, rfl⟩)
            refine ⟨?rel, ?measure⟩
            case rel => exact ⟨i + 1, Ln, by have := nums.out; omega, by have := nums.out; omega, congrArg (Value.int .i64) (by rw [hyN'.out]; exact q2.symm), congrArg (Value.int .i64) hyN'.out.symm, congrArg Value.bool (by rw [hyN'.out]; exact q3.symm), by go_num, Lib.hid f3.out.1, Lib.hid f3.out.2.1, Lib.hid f3.out.2.2⟩
            case measure => simp [intOf]; omega
          · clear hit
            go_wp2_with (go_at_call 10; (with_reducible refine wc.out.mono ?_); rintro e w' ⟨rfl, rfl⟩)
            refine ⟨?rel, ?measure⟩
            case rel => exact ⟨i + 1, Ln, by have := nums.out; omega, by have := nums.out; omega, congrArg (Value.int .i64) (by rw [hyN'.out]; exact q2.symm), congrArg (Value.int .i64) hyN'.out.symm, congrArg Value.bool (by rw [hyN'.out]; exact q3.symm), by go_num, Lib.hid f3.out.1, Lib.hid f3.out.2.1, Lib.hid f3.out.2.2⟩
            case measure => simp [intOf]; omega
    · have hle : endsOf (whOf L id) ≤ 1 := by unfold endsOf; split <;> omega
      have hend : ∀ w', Only Nil wr w' → Below w.heap.size w w' := fun w' o => (ho.out.trans o).below (Nat.le_refl _) (fun k hk => hk.elim)
      have hend' := Lib.hid hend
      clear hend
      by_cases hil' : i < len
      · have hli : (i : Int) < (len : Int) := by omega
        have hl3 : (i : Int) = 400 := by omega
        clear hin hil hi1 hil'
        go_wp2
        go_ret
        exact ⟨by simp, hend'.out _ (Only.refl Nil wr)⟩
      · have hli : (i : Int) = (len : Int) := by omega
        clear hin hil hi1 hil'
        go_wp2
        go_ret
        exact ⟨by simp, hend'.out _ (Only.refl Nil wr)⟩
end Go.Proofs.Ytlhdecjpjpnlhaa.Lg
