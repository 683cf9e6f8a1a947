/- wheel: Tick. -/
import Derived.Test.YtpmgmdlfnlmieaaWhK
namespace Go.Proofs.Ytpmgmdlfnlmieaa.Wh
open Go.RowKit Go.Proofs.Ytpmgmdlfnlmieaa

section
variable {S : Nat → Prop} {a b c : World} {hb now added : Nat} {V : Nat → Value} {F : Nat → List Tm}
theorem plus_plus (hab : a.heap.size ≤ b.heap.size) (hbc : b.heap.size ≤ c.heap.size) (k : Nat) (h : Plus (Plus S a b) b c k) : Plus S a c k := by
  rcases h with (h | h) | h
  · exact .inl h
  · exact .inr ⟨h.1, by omega⟩
  · exact .inr ⟨by omega, h.2⟩
theorem only_plus (o : Only S a b) (o2 : Only (Plus S a b) b c) : Only S a c := o.then o2 (fun i hi hlt => hi.resolve_right (fun h => by omega))
theorem At.join (h : At c (Plus (Plus S a b) b c) hb now added V F) (hab : a.heap.size ≤ b.heap.size) (hbc : b.heap.size ≤ c.heap.size) : At c (Plus S a c) hb now added V F :=
  h.mono (plus_plus hab hbc) (fun k hk => by
    rcases hk with hk | hk
    · exact h.lt k (.inl (.inl hk))
    · exact hk.2)
theorem At.grow (h : At b (Plus S a b) hb now added V F) (o : Only Nil b c) : At c (Plus S a c) hb now added V F :=
  (h.nil o).mono (fun k hk => hk.imp (fun h => h) (fun h => ⟨h.1, by have := o.size; omega⟩)) (fun k hk => by
    rcases hk with hk | hk
    · exact Nat.lt_of_lt_of_le (h.lt k (.inl hk)) o.size
    · exact hk.2)
theorem At.plus0 (h : At b S hb now added V F) (o : Only S a b) (hS : ∀ k, S k → k < a.heap.size) : At b (Plus S a b) hb now added V F :=
  h.mono (fun k hk => .inl hk) (fun k hk => by
    rcases hk with hk | hk
    · have := hS k hk; have := o.size; omega
    · exact hk.2)
end

theorem digit_zero {N k : Nat} (hk : 1 ≤ k) (hk3 : k ≤ 3) (h : N % pw (k - 1) = 0) : (dig N (k - 1) = 0 ↔ N % pw k = 0) := by
  have : k = 1 ∨ k = 2 ∨ k = 3 := by omega
  rcases this with rfl | rfl | rfl <;> simp only [pw, dig] at * <;> omega
theorem putAll_len (now : Nat) (F : Nat → List Tm) (M : List Tm) (n B : Nat) (h : ∀ m, (F m).length ≤ B) (hM : M.length ≤ B) : (putAll now F M n).length ≤ B + B := by
  unfold putAll slots
  rw [List.length_append]
  have := List.length_filter_le (fun t : Tm => spot now t.due == n) M
  have := h n
  omega

/-- The list behind a Tick. -/
theorem Good.tick {now added : Nat} {L : List Tm} (g : Good now added L) (hn : now + 1 < 1000000000) : Good (now + 1) added (L.filter fun t => !(t.due == now + 1)) := by
  have hsub : (L.filter fun t => !(t.due == now + 1)).Sublist L := List.filter_sublist
  refine ⟨?_, Nat.le_trans hsub.length_le g.few, (hsub.map _).nodup g.apart, g.order.sublist hsub, fun t ht => g.old t (hsub.subset ht), fun t ht => g.small t (hsub.subset ht), hn⟩
  intro t ht
  have h1 := g.time t (hsub.subset ht)
  have h2 := (List.mem_filter.1 ht).2
  simp at h2
  omega

/-- One timer of those taken is put: for the inner loop. -/
theorem put_next {T : Nat → Prop} {wt wr : World} {hb N added : Nat} {V : Nat → Value} {G : Nat → List Tm} {M : List Tm} {B : Nat} (h : At wr (Plus T wt wr) hb N added V (putAll N G M)) (o : Only T wt wr) (hG : ∀ m, (G m).length ≤ B) (hM : M.length ≤ B) (hB : B ≤ 1000) (hN : N < 1000000000) (t : Tm) (hd : t.due < 1000010000) :
    Calls Try.prog 27 #[.pointer (some ⟨hb, 0, none⟩), .agg #[.int .u64 (t.id : Int), .int .i64 (t.due : Int), .int .i64 (t.num : Int)]] wr fun e w' =>
      e = .returned (.tuple #[]) ∧ ∃ V', At w' (Plus T wt w') hb N added V' (putAll N G (M ++ [t])) ∧ Only T wt w' := by
  refine (put_any h (fun n _ => by have := putAll_len N G M n B hG hM; omega) hN t.id t.due t.num hd).mono ?_
  rintro e w' ⟨rfl, V', h', o'⟩
  refine ⟨rfl, V', ?_, only_plus o o'⟩
  rw [putAll_append]
  exact h'.join o.size o'.size

theorem own_base {w : World} {b b' : Nat} {e : TypeId} {s n : Nat} {v : Value} {xs : List Value} (h : w.ownsRow b e s v n xs) (hb : b' ≤ b) : w.ownsRow b' e s v n xs := by
  refine ⟨h.1, h.2.imp (fun h => h) ?_⟩
  rintro ⟨g, c, cur, h1, h2, h3⟩
  exact ⟨g, c, cur, h1, Nat.le_trans hb h2, h3⟩
theorem Wl.grow {S : Nat → Prop} {w a b : World} {hb now added : Nat} {L : List Tm} (h : Wl a (Plus S w a) hb now added L) (o : Only Nil a b) : Wl b (Plus S w b) hb now added L := h.imp fun _ h => h.grow o
theorem Wl.join {S : Nat → Prop} {a b c : World} {hb now added : Nat} {L : List Tm} (h : Wl c (Plus (Plus S a b) b c) hb now added L) (hab : a.heap.size ≤ b.heap.size) (hbc : b.heap.size ≤ c.heap.size) : Wl c (Plus S a c) hb now added L := h.imp fun _ h => h.join hab hbc

/-- What takeAll takes is nobody's any more. -/
theorem take_turn {w : World} {S : Nat → Prop} {hb N added : Nat} {V : Nat → Value} {F : Nat → List Tm} (h : At w S hb N added V F) (hn : N < 1000000000) (k : Nat) (hk : k ≤ 3) :
    Calls Try.prog 30 #[.pointer (some ⟨hb, 0, none⟩), .int .i64 (k : Int)] w fun e w' =>
      ∃ a c T V', e = .returned (.slice a (F (8 * k + dig N k)).length c) ∧ TIn w' a (F (8 * k + dig N k)) ∧ (∀ q, T q → S q) ∧ (∀ q b, a = some b → T q → q ≠ b.block) ∧ At w' T hb N added V' (emp F (8 * k + dig N k)) ∧ Only (fun q => q = hb) w w' := by
  have hd := dig_lt N k
  have hlt : 8 * k + dig N k < 32 := by omega
  refine (take_any h hn k hk).mono ?_
  generalize 8 * k + dig N k = n at *
  rintro e w' ⟨rfl, h', o⟩
  obtain ⟨a, c, hv⟩ := own_slice_n (h.row n hlt)
  have hr := h.row n hlt
  rw [hv] at hr
  refine ⟨a, c, fun q => S q ∧ (V n).ownBlock ≠ some q, upd V n (.slice none 0 0), by rw [hv], (own_tin hr).keep o (fun q b hb' hq => ?_), fun q hq => hq.1, fun q b hb' hq => ?_, ?_, o⟩
  · subst hq
    intro e
    exact (h.own n q hlt (by rw [hv, hb', e]; rfl)).2 rfl
  · intro e
    exact hq.2 (by rw [hv, hb', e]; rfl)
  · refine ⟨h'.head, h'.row, h'.apart, fun m q hm hq => ?_, ⟨h.hS, fun e => (h.own n hb hlt e).2 rfl⟩, fun q hq => h'.lt q hq.1⟩
    have h1 := h'.own m q hm hq
    refine ⟨⟨h1.1, fun e => ?_⟩, h1.2⟩
    by_cases hmn : m = n
    · subst hmn; simp [upd, Value.ownBlock] at hq
    · simp only [upd, if_neg hmn] at hq
      exact hmn (h.apart m n q hm hlt hq e)

/-- The lowest wheel's slot is taken: who is due. -/
theorem take_end {w wr : World} {S : Nat → Prop} {hb N added : Nat} {V : Nat → Value} {L M L' : List Tm} (h : At wr (Plus S w wr) hb N added V (slots N L)) (o : Only S w wr) (hS : S hb) (hn : N < 1000000000) (hds : slots N L (dig N 0) = M) (hdl : emp (slots N L) (dig N 0) = slots N L') :
    Calls Try.prog 30 #[.pointer (some ⟨hb, 0, none⟩), .int .i64 0] wr fun e w' =>
      ∃ a c, e = .returned (.slice a M.length c) ∧ Hid (TIn w' a M) ∧ Hid (Wl w' (Plus S w w') hb N added L') ∧ Hid (Only S w w') := by
  refine (take_turn h hn 0 (by decide)).mono ?_
  rw [show 8 * 0 + dig N 0 = dig N 0 by omega, hds, hdl]
  rintro e w' ⟨a, c, T, V', rfl, hi, hT, _, hA, o'⟩
  refine ⟨a, c, rfl, Lib.hid hi, Lib.hid ⟨V', hA.mono (fun q hq => (hT q hq).imp (fun h => h) (fun h => ⟨h.1, Nat.lt_of_lt_of_le h.2 o'.size⟩)) (fun q hq => ?_)⟩, Lib.hid (o.trans (o'.mono (fun q hq => by subst hq; exact hS)))⟩
  rcases hq with hq | hq
  · exact Nat.lt_of_lt_of_le (h.lt q (.inl hq)) o'.size
  · exact hq.2

set_option maxRecDepth 100000 in
set_option maxHeartbeats 4000000 in
theorem tick_any {w : World} {S : Nat → Prop} {hb now added : Nat} {L : List Tm} (h : Wl w S hb now added L) (g : Good now added L) (hn : now + 1 < 1000000000) :
    Calls Try.prog 18 #[.pointer (some ⟨hb, 0, none⟩)] w fun e w' =>
      ∃ v, e = .returned v ∧ Hid (w'.ownsRow w.heap.size 30 1 v (L.filter fun t => t.due == now + 1).length (ids (L.filter fun t => t.due == now + 1))) ∧
        Wl w' (Plus S w w') hb (now + 1) added (L.filter fun t => !(t.due == now + 1)) ∧ Only S w w' := by
  obtain ⟨V, hA⟩ := h
  have hSlt := Lib.hid hA.lt
  have c0 := hA.c0
  have f0 := hA.fz 0
  have lb := hA.lt_hb
  have T1 := hA.tick (now + 1)
  have hshb := Lib.hid hA.hS
  have htime := g.time
  have hfew := g.few
  have hms := mids_start htime
  have hstep := Lib.hid (fun k h1 h2 h3 => mids_step (k := k) htime h1 h2 h3)
  have hend := Lib.hid (fun k h1 h2 h3 => mids_end (now := now) (k := k) (L := L) h1 h2 h3)
  have hds := Lib.hid (due_slot htime)
  have hdl := Lib.hid (due_left htime)
  have hmle := Lib.hid (fun k n => show (mids now k L n).length ≤ 64 from Nat.le_trans (List.length_filter_le _ _) hfew)
  have hdue := Lib.hid (fun k n (t : Tm) (ht : t ∈ mids now k L n) => show t.due < 1000010000 from by have := htime t (List.mem_filter.1 ht).1; omega)
  have hsle := Lib.hid (fun n => show (slots (now + 1) L n).length ≤ 64 from Nat.le_trans (List.length_filter_le _ _) hfew)
  rw [← hms] at T1
  obtain ⟨N, hN⟩ : ∃ N, N = now + 1 := ⟨_, rfl⟩
  rw [← hN] at T1 hstep hend hds hdl hn hsle ⊢
  have T1' := Lib.hid (show At _ (Plus S w _) hb N added V (mids now 1 L) ∧ Only S w _ from ⟨T1.1.plus0 (T1.2.mono (fun k hk => by subst hk; exact hA.hS)) hA.lt, T1.2.mono (fun k hk => by subst hk; exact hA.hS)⟩)
  have eN : (now : Int) + 1 = (N : Int) := by omega
  have hn' := Lib.hid hn
  have hnn : (now : Int) < 1000000000 := by omega
  clear hA T1 g htime hfew hms hN hn
  go_enter Try.func18, Try.ntmps18
  go_wp2
  (try simp only [eN])
  clear eN c0 f0 lb hnn
  generalize w.setCell ⟨hb, 0, none⟩ (.int .i64 (N : Int)) = w1 at *
  go_loopw [3] (fun s3 wr => ∃ (k : Nat) (V : Nat → Value), 1 ≤ k ∧ k ≤ 4 ∧ s3 = .int .i64 (k : Int) ∧ Hid (N % pw (k - 1) = 0) ∧ Hid (At wr (Plus S w wr) hb N added V (mids now k L)) ∧ Hid (Only S w wr))
    (fun s3 _ => 4 - (intOf s3).toNat)
  case atStart => exact ⟨1, V, by omega, by omega, rfl, Lib.hid (Nat.mod_one _), Lib.hid T1'.out.1, Lib.hid T1'.out.2⟩
  case round =>
    obtain ⟨k, V, hk1, hk4, rfl, hmod, hA, ho⟩ := hrel
    have c0 := hA.out.c0
    by_cases hlt : k < 4
    · have hdz := digit_zero hk1 (by omega) hmod.out
      have hdig := Lib.hid (fun w => show Calls Try.prog 29 #[.int .i64 (N : Int), .int .i64 ((k : Int) - 1)] w fun e w' => e = .returned (.int .i64 (dig N (k - 1) : Nat)) ∧ w = w' from by
        have := digit_any N (k - 1) (by omega) (by have := hn'.out; omega) w
        rwa [show ((k - 1 : Nat) : Int) = (k : Int) - 1 by omega] at this)
      have hk4' : (k : Int) < 4 := by omega
      have hk1' : 1 ≤ (k : Int) := by omega
      by_cases hd : dig N (k - 1) = 0
      · have hz := hdz.1 hd
        rw [hd] at hdig
        clear hdz hd
        have htt := Lib.hid (take_turn hA.out hn'.out k (by omega))
        have hst := Lib.hid (hstep.out k hk1 (by omega) hz)
        have hml := Lib.hid (hmle.out k)
        have hdu := Lib.hid (hdue.out k (8 * k + dig N k))
        have hsz := Lib.hid ho.out.size
        generalize 8 * k + dig N k = n at *
        generalize hG : emp (mids now k L) n = G at *
        have hGl : Hid (∀ m, (G m).length ≤ 64) := Lib.hid (fun m => by
          rw [← hG]; unfold emp
          split
          · simp
          · exact hml.out m)
        clear hG
        generalize hX : mids now k L n = X at *
        have hXl : Hid (X.length ≤ 64) := Lib.hid (by rw [← hX]; exact hml.out n)
        clear hX c0
        have c0 := hA.out.c0
        generalize hlen : X.length = len at *
        have hlen' := Lib.hid hlen
        clear hlen
        have hl64 : (len : Int) ≤ 64 := by have := hXl.out; omega
        go_wp2_with (first
          | (go_at_call 29; (with_reducible refine (hdig.out _).mono ?_); rintro e w' ⟨rfl, rfl⟩)
          | (go_at_call 30; (with_reducible refine htt.out.mono ?_); rintro e w4 ⟨a, c, T, V', rfl, h4, h5, h6, h7, h8⟩))
        have i4 := Lib.hid h4
        have i5 := Lib.hid h5
        have i6 := Lib.hid h6
        have i7 := Lib.hid h7
        have i8 := Lib.hid h8
        clear h4 h5 h6 h7 h8
        have hon4 := Lib.hid (ho.out.trans (i8.out.mono (fun q hq => by subst hq; exact hshb.out)))
        have hconv := Lib.hid (fun q (hq : T q) => show S q ∨ (w.heap.size ≤ q ∧ q < w4.heap.size) from (i5.out q hq).imp (fun h => h) (fun h => ⟨h.1, Nat.lt_of_lt_of_le h.2 i8.out.size⟩))
        go_loopw [31] (fun s31 wi => ∃ (i : Nat) (V : Nat → Value), i ≤ len ∧ s31 = .int .i64 (i : Int) ∧ Hid (At wi (Plus T w4 wi) hb N added V (putAll N G (X.take i))) ∧ Hid (Only T w4 wi))
          (fun s31 _ => len - (intOf s31).toNat)
        case atStart => exact ⟨0, V', by omega, rfl, Lib.hid (by rw [List.take_zero, putAll_nil]; exact i7.out.plus0 (Only.refl _ _) i7.out.lt), Lib.hid (Only.refl _ _)⟩
        case round =>
          obtain ⟨i, Vi, hi, rfl, hAi, hoi⟩ := hrel
          by_cases hil : i < len
          · obtain ⟨b, rfl, _, hc⟩ := (i4.out.keep hoi.out (fun q b hq hT => i6.out q b hq hT)) i (by rw [hlen'.out]; exact hil)
            obtain ⟨d0, d1, d2⟩ := hc i (by rw [hlen'.out]; exact hil)
            have hmem : X.getD i default ∈ X := by
              have e : X.getD i default = X[i]'(by rw [hlen'.out]; exact hil) := by simp [hlen'.out, hil]
              rw [e]; exact List.getElem_mem _
            have htake : X.take (i + 1) = X.take i ++ [X.getD i default] := by
              rw [List.take_succ_eq_append_getElem (by rw [hlen'.out]; exact hil)]
              simp [hlen'.out, hil]
            have hpn := Lib.hid (fun (w' : World) (hA : At w' (Plus T w4 w') hb N added Vi (putAll N G (X.take i))) (o : Only T w4 w') => put_next hA o hGl.out (Nat.le_trans (List.length_take_le _ _) (by rw [← hlen'.out] at hil; have := hXl.out; omega)) (by decide) hn'.out (X.getD i default) (hdu.out _ hmem))
            rw [← htake] at hpn
            clear hc hmem htake
            generalize (X.getD i default).id = x0 at *
            generalize (X.getD i default).due = x1 at *
            generalize (X.getD i default).num = x2 at *
            have hil' : (i : Int) < (len : Int) := by omega
            have hAa := Lib.hid (hAi.out.grow ((Only.refl Nil wr).alloc (.cells #[.int .u64 (x0 : Int), .int .i64 (x1 : Int), .int .i64 (x2 : Int)] 67)))
            have hoa := Lib.hid (hoi.out.alloc (.cells #[.int .u64 (x0 : Int), .int .i64 (x1 : Int), .int .i64 (x2 : Int)] 67))
            go_wp2_with (go_at_call 27; (with_reducible refine (hpn.out _ hAa.out hoa.out).mono ?_); rintro e w6 ⟨rfl, V6, h9, h10⟩; have i9 := Lib.hid h9; have i10 := Lib.hid h10; clear h9 h10)
            go_roundw
            case rel => exact ⟨i + 1, V6, by omega, by go_num, i9, i10⟩
            case measure => simp [intOf]; omega
          · obtain rfl : i = len := by omega
            have hk0 : ¬ (i : Int) < (i : Int) := by omega
            have hAe : Hid (At wr (Plus S w wr) hb N added Vi (mids now (k + 1) L)) := Lib.hid (by
              have e := hAi.out
              rw [List.take_of_length_le (by rw [hlen'.out]; exact Nat.le_refl _), hst.out] at e
              refine e.mono (fun q hq => ?_) (fun q hq => ?_)
              · rcases hq with hq | hq
                · exact (hconv.out q hq).imp (fun h => h) (fun h => ⟨h.1, Nat.lt_of_lt_of_le h.2 hoi.out.size⟩)
                · exact .inr ⟨Nat.le_trans hon4.out.size hq.1, hq.2⟩
              · rcases hq with hq | hq
                · have := hSlt.out q hq; have := hon4.out.size; have := hoi.out.size; omega
                · exact hq.2)
            have hoe : Hid (Only S w wr) := Lib.hid (hon4.out.then hoi.out (fun q hq hlt => (hconv.out q hq).resolve_right (fun h => by omega)))
            go_wp2
            go_roundw
            case rel => exact ⟨k + 1, Vi, by omega, by omega, by go_num, Lib.hid hz, hAe, hoe⟩
            case measure => simp [intOf]; omega
      · have hz : ¬ N % pw k = 0 := fun e => hd (hdz.2 e)
        have hfin := hend.out k hk1 hk4 (.inr hz)
        clear hdz
        generalize dig N (k - 1) = dd at *
        have hd' : ((dd : Int) == 0) = false := by rw [beq_eq_false_iff_ne]; omega
        clear hd
        have htk := Lib.hid (take_end (M := L.filter fun t => t.due == N) (L' := L.filter fun t => !(t.due == N)) (by rw [← hfin]; exact hA.out) ho.out hshb.out hn'.out hds.out hdl.out)
        have hml := Lib.hid (show (L.filter fun t => t.due == N).length ≤ 65000 from by rw [← hds.out]; have := hsle.out (dig N 0); omega)
        clear hfin
        generalize hM : (L.filter fun t => t.due == N) = M at *
        generalize hL' : (L.filter fun t => !(t.due == N)) = L' at *
        have hM2 := Lib.hid hM
        have hL2 := Lib.hid hL'
        clear hM hL'
        go_wp2_with (first
          | (go_at_call 29; (with_reducible refine (hdig.out _).mono ?_); rintro e w' ⟨rfl, rfl⟩)
          | (go_at_call 30; (with_reducible refine htk.out.mono ?_); rintro e w4 ⟨a, c, rfl, h4, h5, h6⟩)
          | (go_at_call 31; (with_reducible refine (idsOf_any h4.out hml.out).mono ?_); rintro e w5 ⟨v5, rfl, h7, h8'⟩; have h8 := Lib.hid h8'; clear h8'))
        go_ret
        rw [hM2.out, hL2.out]
        exact ⟨v5, rfl, Lib.hid (own_base h7.out h6.out.size), h5.out.grow h8.out, h6.out.trans (h8.out.nilTo S)⟩
    · obtain rfl : k = 4 := by omega
      have hfin := hend.out 4 (by omega) (by omega) (.inl rfl)
      have htk := Lib.hid (take_end (M := L.filter fun t => t.due == N) (L' := L.filter fun t => !(t.due == N)) (by rw [← hfin]; exact hA.out) ho.out hshb.out hn'.out hds.out hdl.out)
      have hml := Lib.hid (show (L.filter fun t => t.due == N).length ≤ 65000 from by rw [← hds.out]; have := hsle.out (dig N 0); omega)
      clear hfin
      generalize hM : (L.filter fun t => t.due == N) = M at *
      generalize hL' : (L.filter fun t => !(t.due == N)) = L' at *
      have hM2 := Lib.hid hM
      have hL2 := Lib.hid hL'
      clear hM hL'
      go_wp2_with (first
        | (go_at_call 30; (with_reducible refine htk.out.mono ?_); rintro e w4 ⟨a, c, rfl, h4, h5, h6⟩)
        | (go_at_call 31; (with_reducible refine (idsOf_any h4.out hml.out).mono ?_); rintro e w5 ⟨v5, rfl, h7, h8'⟩; have h8 := Lib.hid h8'; clear h8'))
      go_ret
      rw [hM2.out, hL2.out]
      exact ⟨v5, rfl, Lib.hid (own_base h7.out h6.out.size), h5.out.grow h8.out, h6.out.trans (h8.out.nilTo S)⟩
end Go.Proofs.Ytpmgmdlfnlmieaa.Wh
