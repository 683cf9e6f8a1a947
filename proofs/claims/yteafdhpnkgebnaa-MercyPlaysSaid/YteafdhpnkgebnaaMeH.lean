/- mercy: the document's Directive; a budget that a call has made; alive. -/
import Derived.Test.YteafdhpnkgebnaaMeG
set_option linter.unusedSimpArgs false
set_option linter.unusedVariables false
namespace Go.Proofs.Yteafdhpnkgebnaa.Me
open Go.RowKit Go.Proofs.Yteafdhpnkgebnaa

set_option maxHeartbeats 2000000 in
set_option maxRecDepth 100000 in
theorem rdir_any {w : World} {a : Option Addr} {n c : Nat} {L : List Cs} (hx : CaIn w a L) (hn : L.length = n) (hb : n ≤ 140737488355328) (r : Wd) (v0 v1 v2 v4 : Value) :
    Calls Try.prog 17 #[.agg #[v0, v1, v2, .slice a n c, v4], .string (bs r)] w fun e w' => e = .returned (.int .i64 (dirOf L r)) ∧ Only Nil w w' := by
  obtain ⟨W, hW⟩ : ∃ W, W = w.alloc (.cells #[v0, v1, v2, .slice a n c, v4] 41) := ⟨_, rfl⟩
  have oW : Only Nil w W := by rw [hW]; exact (Only.refl Nil w).alloc _
  have b : W.heap[w.heap.size]? = some (.cells #[v0, v1, v2, .slice a n c, v4] 41 (0, 0)) := by rw [hW]; exact heap_new _ _
  have y3 : W.cell? ⟨w.heap.size, 3, none⟩ = some (.slice a n c) := by simp [World.cell?, b]
  have HO := Lib.hid oW
  have HX := Lib.hid (hx.nil oW)
  have HN := Lib.hid hn
  have hb' : (n : Int) ≤ 140737488355328 := by omega
  clear oW b hx hn hb
  go_enter Try.func17, Try.ntmps17
  go_upto_region 1 with (fail)
  rw [← hW]
  clear hW
  go_wp2
  go_loopw [5] (fun s5 wr => ∃ (i : Nat), i ≤ n ∧ s5 = .int .i64 (i : Int) ∧ Hid (Miss (hit r) L i) ∧ W = wr)
    (fun s5 _ => n - (intOf s5).toNat)
  case atStart => exact ⟨0, Nat.zero_le _, rfl, Lib.hid (Miss.zero _ _), rfl⟩
  case round =>
    obtain ⟨i, hi, rfl, hE, rfl⟩ := hrel
    by_cases hin : i < n
    · obtain ⟨q, off, rfl, hlt, e0, e1⟩ := HX.out i (by rw [HN.out]; exact hin)
      obtain ⟨x, hx⟩ : ∃ x, x = L.getD i default := ⟨_, rfl⟩
      rw [← hx] at e0 e1
      have HL := Lib.hid hx
      have HI := Lib.hid hin
      clear hx
      have hin' : (i : Int) < (n : Int) := by omega
      have hq : ((bs x.reason).toList == (bs r).toList) = hit r x := by rw [toList_bs, toList_bs]; rfl
      cases hp : hit r x with
      | false =>
        rw [hp] at hq
        have HP := Lib.hid hp
        clear hp
        go_wp2
        go_roundw
        case rel => exact ⟨i + 1, by omega, by go_num, Lib.hid (hE.out.succ (by rw [← HL.out]; exact HP.out)), trivial⟩
        case measure => simp [intOf]; omega
      | true =>
        rw [hp] at hq
        have hD := Lib.hid (dir_at (show Yes (hit r) L x from by rw [HL.out]; exact find_at hE.out (by rw [HN.out]; exact HI.out) (by rw [← HL.out]; exact hp)))
        clear hp
        generalize x.act = d at *
        go_wp2
        go_ret
        exact ⟨by rw [hD.out]; rfl, HO.out⟩
    · obtain rfl : i = n := by omega
      have hk0 : ¬ (i : Int) < (i : Int) := by omega
      have hNo := Lib.hid (show No (hit r) L from find_no (by rw [HN.out]; exact hE.out))
      clear hin
      go_wp2
      go_loopw [6] (fun s6 wr => ∃ (k : Nat), k ≤ i ∧ s6 = .int .i64 (k : Int) ∧ Hid (Miss (hit []) L k) ∧ W = wr)
        (fun s6 _ => i - (intOf s6).toNat)
      case atStart => exact ⟨0, Nat.zero_le _, rfl, Lib.hid (Miss.zero _ _), rfl⟩
      case round =>
        obtain ⟨k, hk, rfl, hE2, rfl⟩ := hrel
        by_cases hkn : k < i
        · obtain ⟨q, off, rfl, hlt, e0, e1⟩ := HX.out k (by rw [HN.out]; exact hkn)
          obtain ⟨x, hx⟩ : ∃ x, x = L.getD k default := ⟨_, rfl⟩
          rw [← hx] at e0 e1
          have HL := Lib.hid hx
          have HI := Lib.hid hkn
          clear hx
          have hkn' : (k : Int) < (i : Int) := by omega
          have hq : (bs x.reason).toList.isEmpty = hit [] x := by rw [toList_bs]; unfold hit; cases x.reason <;> rfl
          cases hp : hit [] x with
          | false =>
            rw [hp] at hq
            have HP := Lib.hid hp
            clear hp
            go_wp2
            go_roundw
            case rel => exact ⟨k + 1, by omega, by go_num, Lib.hid (hE2.out.succ (by rw [← HL.out]; exact HP.out)), trivial⟩
            case measure => simp [intOf]; omega
          | true =>
            rw [hp] at hq
            have hD := Lib.hid (dir_else hNo.out (show Yes (hit []) L x from by rw [HL.out]; exact find_at hE2.out (by rw [HN.out]; exact HI.out) (by rw [← HL.out]; exact hp)))
            clear hp
            generalize x.act = d at *
            go_wp2
            go_ret
            exact ⟨by rw [hD.out]; rfl, HO.out⟩
        · obtain rfl : k = i := by omega
          have hk1 : ¬ (k : Int) < (k : Int) := by omega
          have hD := Lib.hid (dir_none hNo.out (show No (hit []) L from find_no (by rw [HN.out]; exact hE2.out)))
          clear hkn
          go_wp2
          go_ret
          exact ⟨by rw [hD.out]; rfl, HO.out⟩

/-- The blocks that came behind w0, but those of K. -/
def Free (w0 : World) (K : Nat → Prop) (q : Nat) : Prop := w0.heap.size ≤ q ∧ ¬ K q
/-- World w holds, at hb, a budget that was made behind world w0; none of its blocks is of K; nothing that there was in w0 has turned. -/
def St (w0 : World) (K : Nat → Prop) (w : World) (hb n N : Nat) (win : Int) (A : Int → List Int) : Prop := ∃ S, At w S hb n N win A ∧ (∀ q, S q → Free w0 K q) ∧ (∀ q, K q → q < w.heap.size) ∧ Only Nil w0 w
section
variable {w0 w w' : World} {K K' T : Nat → Prop} {hb n N : Nat} {win : Int} {A : Int → List Int}
theorem St.nil (h : St w0 K w hb n N win A) (o : Only Nil w w') : St w0 K w' hb n N win A := by
  obtain ⟨S, h1, h2, h3, h4⟩ := h
  exact ⟨S, h1.nil o, h2, fun q hq => Nat.lt_of_lt_of_le (h3 q hq) o.size, h4.trans o⟩
theorem St.only (h : St w0 K w hb n N win A) : Only Nil w0 w := by obtain ⟨_, _, _, _, h⟩ := h; exact h
theorem St.few (h : St w0 K w hb n N win A) : n ≤ 100 := by obtain ⟨_, h, _⟩ := h; exact h.few
theorem St.more {N' : Nat} (h : St w0 K w hb n N win A) (hN : N ≤ N') : St w0 K w hb n N' win A := by
  obtain ⟨S, h1, h2⟩ := h
  exact ⟨S, h1.more hN, h2⟩
/-- What is of K has turned; K is another one now, of what was K or is new. -/
theorem St.re (h : St w0 K w hb n N win A) (o : Only T w w') (hT : ∀ q, T q → K q) (hT0 : ∀ q, T q → w0.heap.size ≤ q) (hK : ∀ q, K' q → (K q ∨ w.heap.size ≤ q) ∧ q < w'.heap.size) : St w0 K' w' hb n N win A := by
  obtain ⟨S, h1, h2, h3, h4⟩ := h
  refine ⟨S, h1.keep o (fun q hq ht => (h2 q hq).2 (hT q ht)), fun q hq => ⟨(h2 q hq).1, fun hk => ?_⟩, fun q hq => (hK q hq).2, h4.then o (fun q hq hlt => by have := hT0 q hq; omega)⟩
  rcases (hK q hk).1 with h5 | h5
  · exact (h2 q hq).2 h5
  · have := h1.lt q hq; omega
theorem st_new (w0 w : World) (K : Nat → Prop) (hK : ∀ q, K q → q < w.heap.size) (o : Only Nil w0 w) (r u : Int) : Calls Try.prog 9 #[.int .i64 r, .int .i64 u] w fun e w' => e = .returned (.pointer (some ⟨w.heap.size + 1, 0, none⟩)) ∧ St w0 K w' (w.heap.size + 1) (kn r) 0 (kw u) (fun _ => []) ∧ Only Nil w w' :=
  (new_any r u w).mono fun e w' ⟨he, h, o'⟩ => ⟨he, ⟨_, h, fun q hq => ⟨by have := o.size; omega, fun hk => by have := hK q hk; omega⟩, fun q hq => Nat.lt_of_lt_of_le (hK q hq) o'.size, o.trans o'⟩, o'⟩
theorem st_left (h : St w0 K w hb n N win A) (c : Int) (hc : (Lit.int .i64 c).wf = true) (now : Int) :
    Calls Try.prog 11 #[.pointer (some ⟨hb, 0, none⟩), .int .i64 c, .int .i64 now] w fun e w' => e = .returned (.int .i64 (left n win (A c) now : Nat)) ∧ St w0 K w' hb n N win A ∧ Only (Free w0 K) w w' := by
  have h' := h
  obtain ⟨S, h1, h2⟩ := h
  exact (left_any h1 c hc now).mono fun e w' ⟨he, o⟩ => ⟨he, h'.nil o, o.nilTo _⟩
theorem st_turn {N' : Nat} {A' : Int → List Int} {S : Nat → Prop} (h2 : ∀ q, S q → Free w0 K q) (h3 : ∀ q, K q → q < w.heap.size) (h4 : Only Nil w0 w) (h' : At w' (Plus S w w') hb n N' win A') (o : Only S w w') : St w0 K w' hb n N' win A' ∧ Only (Free w0 K) w w' :=
  ⟨⟨Plus S w w', h', fun q hq => by
      rcases hq with hq | hq
      · exact h2 q hq
      · exact ⟨by have := h4.size; omega, fun hk => by have := h3 q hk; omega⟩, fun q hq => Nat.lt_of_lt_of_le (h3 q hq) o.size, h4.then o (fun q hq hlt => by have := (h2 q hq).1; omega)⟩, o.mono h2⟩
theorem st_ask (h : St w0 K w hb n N win A) (hN : N ≤ 65000) (c : Int) (hc : (Lit.int .i64 c).wf = true) (now : Int) :
    Calls Try.prog 14 #[.pointer (some ⟨hb, 0, none⟩), .int .i64 c, .int .i64 now] w fun e w' => e = .returned (.bool (decide (0 < left n win (A c) now))) ∧ St w0 K w' hb n (N + 1) win (asked n win A c now) ∧ Only (Free w0 K) w w' := by
  obtain ⟨S, h1, h2, h3, h4⟩ := h
  exact (ask_any h1 hN c hc now).mono fun e w' ⟨he, h', o⟩ => ⟨he, st_turn h2 h3 h4 h' o⟩
theorem st_forget (h : St w0 K w hb n N win A) (c : Int) (hc : (Lit.int .i64 c).wf = true) :
    Calls Try.prog 12 #[.pointer (some ⟨hb, 0, none⟩), .int .i64 c] w fun e w' => e = .returned (.tuple #[]) ∧ St w0 K w' hb n N win (setV A c []) ∧ Only (Free w0 K) w w' := by
  obtain ⟨S, h1, h2, h3, h4⟩ := h
  exact (forget_any h1 c hc).mono fun e w' ⟨he, h', o⟩ => ⟨he, st_turn h2 h3 h4 h' o⟩
end
end Go.Proofs.Yteafdhpnkgebnaa.Me
