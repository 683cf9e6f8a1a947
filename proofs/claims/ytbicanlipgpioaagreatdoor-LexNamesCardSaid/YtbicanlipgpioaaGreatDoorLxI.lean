/- lex: lex.All. -/
import Derived.Test.YtbicanlipgpioaaGreatDoorLxH
namespace Go.Proofs.YtbicanlipgpioaaGreatDoor.Lx
open Go.RowKit Go.Proofs.YtbicanlipgpioaaGreatDoor Go.Shelf

theorem first_tok (c : UInt8) (r : List UInt8) (z : Nat) (t : Tok) (ht : tok (c :: r) = (z, t)) (w : World) (hl : (c :: r).length ≤ 16384) (E : Env w) : Calls Tryz.prog 14 #[.string (bs (c :: r))] w fun e w' =>
    e = .returned (.tuple #[.agg #[.int .i64 t.k, .string (bs t.w), .int .i64 t.n, .int .i64 0], .int .i64 z]) ∧ Only Nil w w' :=
  (first_any c r w hl E).mono fun e w' ⟨h1, h2⟩ => ⟨by rw [h1, ht]; rfl, h2⟩

theorem bs_toList (l : List UInt8) : (bs l).toList = l := by rw [ByteArray.toList_eq, bs_list]
theorem not_empty (c : UInt8) (r : List UInt8) : (!(bs (c :: r)).toList.isEmpty) = true := by rw [bs_toList]; rfl
/-- What lex.All answers. -/
inductive AllPost (w : World) (l : List UInt8) (e : Ending) (w' : World) : Prop
  | ok (a : Option Addr) (n c : Nat) : (whole l).2.1 = 0 → (whole l).1.length = n → e = .returned (.tuple #[.slice a n c, .nilIface]) → Rs w w' (.slice a n c) (whole l).1 → AllPost w l e w'
  | bad (b : Nat) : (whole l).2.1 ≠ 0 → e = .returned (.tuple #[.slice none 0 0, .iface 37 (.pointer (some ⟨b, 0, none⟩))]) → w.heap.size ≤ b →
      w'.heap[b]? = some (.cells #[.int .i64 (whole l).2.1, .int .i64 (whole l).2.2] 39 (0, 0)) → Only Nil w w' → AllPost w l e w'

set_option maxRecDepth 100000 in
set_option maxHeartbeats 1000000 in
theorem all_long (l : List UInt8) (w : World) (h : 16384 < l.length) (hl : l.length ≤ 140737488355328) : Calls Tryz.prog 6 #[.string (bs l)] w (AllPost w l) := by
  have e : whole l = ([], 5, 0) := if_pos h
  have hz : (bs l).size = l.length := bs_size l
  have HE := Lib.hid e
  clear e
  go_enter Tryz.func6, Tryz.ntmps6
  go_wp2
  go_ret2
  exact .bad w.heap.size (by rw [HE.out]; decide) rfl (Nat.le_refl _) (by rw [HE.out]; exact heap_new _ _) ((Only.refl _ _).alloc _)

theorem pushed {w wr w2 : World} {a : Option Addr} {n c : Nat} {X : List (Tok × Nat)} (h : Rs w wr (.slice a n c) X) (o : Only Nil wr w2) (hn : X.length = n) (t : Tok) (q : Nat) (few : n ≤ 65000) :
    ∃ a' c' w5, (Builtin.append_ #[23, 23] 23 #[.slice a n c, .slice (some ⟨w2.heap.size + 1, 0, none⟩) 1 1]).run Tryz.prog
      ((w2.alloc (.cells #[.int .i64 t.k, .string (bs t.w), .int .i64 t.n, .int .i64 q] 36)).alloc (.cells #[.int .i64 t.k, .string (bs t.w), .int .i64 t.n, .int .i64 q] 36)) = .ok (.slice a' (n + 1) c') w5 ∧
      Hid (Rs w w5 (.slice a' (n + 1) c') (X ++ [(t, q)])) ∧ w5.cell? ⟨w2.heap.size, 1, none⟩ = some (.string (bs t.w)) := by
  obtain ⟨a', c', w5, hr, hR, hf⟩ := ((h.more o).more ((Only.refl Nil w2).alloc (.cells #[.int .i64 t.k, .string (bs t.w), .int .i64 t.n, .int .i64 q] 36))).push hn (t, q) few _ rfl
  refine ⟨a', c', w5, ?_, hR, ?_⟩
  · rw [show (w2.alloc (.cells #[.int .i64 t.k, .string (bs t.w), .int .i64 t.n, .int .i64 q] 36)).heap.size = w2.heap.size + 1 by simp] at hr
    exact hr
  · have h1 := hf w2.heap.size (by simp) (fun e => by have := (h.more o).old e; omega)
    have h2 : (w2.alloc (.cells #[.int .i64 t.k, .string (bs t.w), .int .i64 t.n, .int .i64 q] 36)).heap[w2.heap.size]? = some (.cells #[.int .i64 t.k, .string (bs t.w), .int .i64 t.n, .int .i64 q] 36 (0, 0)) := heap_new _ _
    rw [h2] at h1
    simp [World.cell?, h1]

set_option maxRecDepth 100000 in
set_option maxHeartbeats 2000000 in
theorem all_short (l : List UInt8) (w : World) (h : l.length ≤ 16384) (E : Env w) : Calls Tryz.prog 6 #[.string (bs l)] w (AllPost w l) := by
  have e : whole l = LX l.length l := if_neg (by omega)
  have hz : (bs l).size = l.length := bs_size l
  have HE := Lib.hid e
  have EV := Lib.hid E
  clear e E
  go_enter Tryz.func6, Tryz.ntmps6
  go_wp2_with (go_at_call 13; refine (skip_any l _ h).mono ?_; rintro e w1 ⟨rfl, o1⟩)
  go_loopw [4, 5] (fun s4 s5 wr => ∃ (m : List UInt8) (X : List (Tok × Nat)) (a : Option Addr) (n c : Nat), s4 = .slice a n c ∧ s5 = .string (bs m) ∧ X.length = n ∧ n + m.length ≤ l.length ∧ sk false m = m ∧
      Hid (LX l.length l = (X ++ (LX l.length m).1, (LX l.length m).2)) ∧ Rs w wr (.slice a n c) X) (fun _ s5 _ => strLen s5)
  case atStart =>
    refine ⟨sk false l, [], none, 0, 0, rfl, rfl, rfl, ?_, sk_idem _ _, Lib.hid ?_, rs_none o1⟩
    · have := sk_le false l; omega
    · rw [List.nil_append]
      exact LX_sk _ _ _ (sk_idem _ _).symm
  case round =>
    obtain ⟨m, X, a, n, c, rfl, rfl, hn, hm, hsk, hX, hR⟩ := hrel
    have HN := Lib.hid hn
    have HS := Lib.hid hsk
    have HR := Lib.hid hR
    clear hn hsk hR
    cases m with
    | nil =>
      have hne : (!(bs []).toList.isEmpty) = false := by rw [bs_toList]; rfl
      go_wp2
      go_ret2
      have e1 : LX l.length [] = ([], 0, 0) := LX_nil rfl
      have e2 : whole l = (X, 0, 0) := by rw [HE.out, hX.out, e1, List.append_nil]
      exact .ok a n c (by rw [e2]) (by rw [e2]; exact HN.out) rfl (by rw [e2]; exact HR.out)
    | cons ch r =>
      have hne : (!(bs (ch :: r)).toList.isEmpty) = true := not_empty _ _
      have hm' : n + (r.length + 1) ≤ l.length := by simpa using hm
      have hml : (ch :: r).length ≤ 16384 := by simp; omega
      obtain ⟨q, hq⟩ : ∃ q : Nat, (l.length : Int) - ((r.length : Int) + 1) = q := ⟨l.length - (r.length + 1), by omega⟩
      have hq0 : (q : Int) ≤ 16384 := by omega
      have HQ := Lib.hid hq
      have HM := Lib.hid hm
      have HL := Lib.hid hml
      clear hm hml
      obtain ⟨z, t, ht⟩ : ∃ z t, tok (ch :: r) = (z, t) := ⟨_, _, rfl⟩
      have HT := Lib.hid ht
      clear ht
      by_cases h0 : z = 0
      · subst h0
        have hlen : t.w.length ≤ r.length + 1 := by
          have := (tok_pos (l := ch :: r) (by rw [HT.out])).2.length_le
          rw [HT.out] at this
          simpa using this
        have hcap : t.w.length ≤ 16384 := by omega
        go_wp2_with (first
          | (go_at_call 14; refine (first_tok ch r 0 t HT.out _ HL.out (EV.out.keep HR.out.only)).mono ?_; rintro e w2 ⟨rfl, o2⟩; obtain ⟨a', c', w5, hr, hR5, hc5⟩ := pushed HR.out o2 HN.out t q (by omega); have hr' := Lib.hid hr; clear hr)
          | (at_builtin; refine Lib.wpList_append_run _ rfl (.tmp 38) (.tmp 40) 23 23 rfl _ _ rfl rfl _ _ hr'.out ?_))
        simp only [bs_extract]
        rw [show ((ch :: r).take (r.length + 1)) = ch :: r from List.take_of_length_le (by simp)]
        go_wp2_with (go_at_call 13; refine (skip_any ((ch :: r).drop t.w.length) _ (by simp; omega)).mono ?_; rintro e w6 ⟨rfl, o6⟩)
        have hsz := sk_le false ((ch :: r).drop t.w.length)
        have hpos := (tok_pos (l := ch :: r) (by rw [HT.out])).1
        rw [HT.out] at hpos
        have hsz' : (sk false ((ch :: r).drop t.w.length)).length < r.length + 1 := by
          simp at hsz hpos; omega
        go_roundw
        case rel =>
          refine ⟨_, X ++ [(t, q)], a', n + 1, c', rfl, rfl, ?_, by omega, sk_idem _ _, Lib.hid ?_, hR5.out.more o6⟩
          · rw [List.length_append, HN.out]; rfl
          · have e1 := LX_tok (N := l.length) HS.out (by rw [HT.out])
            rw [HT.out] at e1
            have e2 : l.length - (r.length + 1) = q := by have := HQ.out; omega
            rw [hX.out, e1, e2, LX_sk l.length (sk false ((ch :: r).drop t.w.length)) ((ch :: r).drop t.w.length) (sk_idem _ _), List.append_assoc]
            rfl
        case measure =>
          show (bs _).size < (bs (ch :: r)).size
          rw [bs_size, bs_size]; simpa using hsz'
      · have hzc : ((z : Int) != 0) = true := by simpa using h0
        have H0 := Lib.hid h0
        clear h0
        go_wp2_with (go_at_call 14; refine (first_tok ch r z t HT.out _ HL.out (EV.out.keep HR.out.only)).mono ?_; rintro e w2 ⟨rfl, o2⟩)
        go_ret2
        have e1 := LX_bad (N := l.length) HS.out (by rw [HT.out]; exact H0.out)
        rw [HT.out] at e1
        have e2 : l.length - (r.length + 1) = q := by have := HQ.out; omega
        have e3 : whole l = (X, z, q) := by rw [HE.out, hX.out, e1, e2, List.append_nil]
        have o5 := HR.out.only.trans o2
        have hs5 := o5.size
        refine .bad (w2.heap.size + 1) (by rw [e3]; exact H0.out) rfl (by omega) ?_ ((o5.alloc _).alloc _)
        rw [e3]
        have := heap_new (w2.alloc (.cells #[.int .i64 t.k, .string (bs t.w), .int .i64 t.n, .int .i64 0] 36)) (.cells #[.int .i64 z, .int .i64 q] 39)
        rw [show (w2.alloc (.cells #[.int .i64 t.k, .string (bs t.w), .int .i64 t.n, .int .i64 0] 36)).heap.size = w2.heap.size + 1 by simp] at this
        exact this
end Go.Proofs.YtbicanlipgpioaaGreatDoor.Lx
