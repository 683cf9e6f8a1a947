/- parse: ParseJoins' walk. -/
import Derived.Test.YtdhokkmflccaaaaGreatDoorPsRe
set_option linter.unusedVariables false
namespace Go.Proofs.YtdhokkmflccaaaaGreatDoor.Ps
open Go.RowKit Go.Proofs.YtdhokkmflccaaaaGreatDoor Lx

theorem CIn.pre {α : Type} {D : Nat} {w : World} {a : Option Addr} {n s c : Nat} {f : α → List Value} {Z : List α} (hf : ∀ x, (f x).length = s) (h : CIn D w (.slice a n c) n s (Z.flatMap f)) (hZ : Z.length = n) (k : Nat) (hk : k ≤ n) :
    CIn D w (.slice a k c) k s ((Z.take k).flatMap f) := by
  obtain ⟨a', c0, ⟨h1, h1c⟩, h2, h3⟩ := h
  simp only [Value.slice.injEq] at h1
  obtain ⟨rfl, _, rfl⟩ := h1
  have hl : ∀ L : List α, (L.flatMap f).length = L.length * s := fun L => by
    induction L with
    | nil => simp
    | cons a L ih => rw [List.flatMap_cons, List.length_append, hf, ih, List.length_cons, Nat.add_mul]; omega
  have hp : (Z.take k).flatMap f ++ (Z.drop k).flatMap f = Z.flatMap f := by rw [← List.flatMap_append, List.take_append_drop]
  have hle : ((Z.take k).flatMap f).length ≤ (Z.flatMap f).length := by rw [← hp, List.length_append]; omega
  refine ⟨a, c, ⟨rfl, by omega⟩, by rw [hl, List.length_take]; congr 1; omega, fun i hi => ?_⟩
  obtain ⟨b, off, ha, hD, hlt, hc⟩ := h3 i (by omega)
  refine ⟨b, off, ha, hD, hlt, fun j hj => (hc j (by omega)).trans ?_⟩
  rw [← hp, List.getElem?_append_left hj]
theorem CIn.suf {α : Type} {D : Nat} {w : World} {a a' : Option Addr} {n s c : Nat} {f : α → List Value} {Z : List α} (hf : ∀ x, (f x).length = s) (h : CIn D w (.slice a n c) n s (Z.flatMap f)) (hZ : Z.length = n) (k m : Nat) (hk : k + m = n)
    (hA : k < n → ∀ b off, a = some ⟨b, off, none⟩ → a' = some ⟨b, off + k * s, none⟩) : CIn D w (.slice a' m (c - k)) m s ((Z.drop k).flatMap f) := by
  obtain ⟨a0, c0, ⟨h1, h1c⟩, h2, h3⟩ := h
  simp only [Value.slice.injEq] at h1
  obtain ⟨rfl, _, rfl⟩ := h1
  have hl : ∀ L : List α, (L.flatMap f).length = L.length * s := fun L => by
    induction L with
    | nil => simp
    | cons a L ih => rw [List.flatMap_cons, List.length_append, hf, ih, List.length_cons, Nat.add_mul]; omega
  have hp : (Z.take k).flatMap f ++ (Z.drop k).flatMap f = Z.flatMap f := by rw [← List.flatMap_append, List.take_append_drop]
  have hk1 : ((Z.take k).flatMap f).length = k * s := by rw [hl, List.length_take]; congr 1; omega
  have hk2 : ((Z.drop k).flatMap f).length = m * s := by rw [hl, List.length_drop]; congr 1; omega
  have htot : (Z.flatMap f).length = k * s + m * s := by rw [← hp, List.length_append, hk1, hk2]
  refine ⟨a', c - k, ⟨rfl, by omega⟩, hk2, fun i hi => ?_⟩
  rw [hk2] at hi
  have hm : 0 < m := by rcases Nat.eq_zero_or_pos m with h0 | h0; (subst h0; simp at hi); exact h0
  obtain ⟨b, off, ha, hD, hlt, hc⟩ := h3 (k * s + i) (by omega)
  refine ⟨b, off + k * s, hA (by omega) b off ha, hD, hlt, fun j hj => ?_⟩
  rw [hk2] at hj
  rw [Nat.add_assoc, hc (k * s + j) (by omega), ← hp, List.getElem?_append_right (by omega), hk1]
  congr 1; omega
theorem XK.pre {D : Nat} {w : World} {a : Option Addr} {n c : Nat} {P Q : List Kd} (h : XK D w (.slice a n c) (P ++ Q)) (hn : (P ++ Q).length = n) : XK D w (.slice a P.length c) P := by
  obtain ⟨Z, hz, hc, hi⟩ := h
  have hl : Z.length = n := by rw [← hn, ← hz, List.length_map]
  rw [hn] at hc
  have := hc.pre (f := kdCs) (s := 5) (fun _ => rfl) hl P.length (by rw [← hn, List.length_append]; omega)
  refine ⟨Z.take P.length, by rw [List.map_take, hz, List.take_left], this, fun x hx => hi x (List.mem_of_mem_take hx)⟩
theorem XK.suf {D : Nat} {w : World} {a a' : Option Addr} {n c : Nat} {P Q : List Kd} (h : XK D w (.slice a n c) (P ++ Q)) (hn : (P ++ Q).length = n)
    (hA : P.length < n → ∀ b off, a = some ⟨b, off, none⟩ → a' = some ⟨b, off + P.length * 5, none⟩) : XK D w (.slice a' Q.length (c - P.length)) Q := by
  obtain ⟨Z, hz, hc, hi⟩ := h
  have hl : Z.length = n := by rw [← hn, ← hz, List.length_map]
  rw [hn] at hc
  have := hc.suf (f := kdCs) (s := 5) (fun _ => rfl) hl P.length Q.length (by rw [← hn, List.length_append]) hA
  refine ⟨Z.drop P.length, by rw [List.map_drop, hz, List.drop_left], this, fun x hx => hi x (List.mem_of_mem_drop hx)⟩
/-- A slice of one's own: nil, or a block from its beginning. -/
def Sl (a : Option Addr) (n c : Nat) : Prop := (a = none ∧ n = 0 ∧ c = 0) ∨ ∃ g, a = some ⟨g, 0, none⟩ ∧ n ≤ c ∧ c ≤ maxLen
theorem prog_ok_sl (l : List UInt8) (w : World) (hl : l.length ≤ 140737488355328) (E : Env w) (P : List Kd) (h : prog l = .ok P) (n : Nat) (hn : P.length = n) :
    Calls Tryz.prog 17 #[.string (bs l)] w fun e w' => ∃ a c, e = .returned (.tuple #[.agg #[.slice a n c], .nilIface]) ∧ XK w'.heap.size w' (.slice a n c) P ∧ Sl a n c ∧ Only Nil w w' := by
  refine (prog_ok_any l w hl E P h).mono ?_
  rintro e w' ⟨sl, rfl, hv, o⟩
  have hx := hv.x
  obtain ⟨xs, ho⟩ := hv.own
  obtain ⟨a, c, rfl⟩ := hx.slice
  rw [hn] at hx ho ⊢
  refine ⟨a, c, rfl, hx, ?_, o⟩
  rcases ho.2 with ⟨h1, h2⟩ | ⟨g, c', cur, h1, _, _, h4, h5, _, _⟩
  · simp only [Value.slice.injEq] at h1
    exact Or.inl ⟨h1.1, h2, h1.2.2⟩
  · simp only [Value.slice.injEq] at h1
    obtain ⟨rfl, _, rfl⟩ := h1
    exact Or.inr ⟨g, rfl, h4, h5⟩
theorem run_pre {a : Option Addr} {n c k : Nat} (h : Sl a n c) (hk : k ≤ n) (w : World) : (Instr.slice 23 (.slice a n c) none (some (.int .i64 (k : Int))) none).run Tryz.prog w = .ok (.slice a k c) w := by
  have hu := Tryz.underlying23
  have hs := Tryz.sizeOf66
  rcases h with ⟨rfl, rfl, rfl⟩ | ⟨g, rfl, h1, h2⟩
  · obtain rfl : k = 0 := by omega
    simp [Instr.slice, Instr.sliceBounds, Instr.sliceBound, asIntOf, run_underlying hu, hs, Sem.run_bind, Result.andThen]
  · have h3 : k ≤ c := by omega
    simp [Instr.slice, Instr.sliceBounds, Instr.sliceBound, asIntOf, run_underlying hu, hs, Sem.run_bind, Result.andThen, h3, Addr.add]
theorem run_suf {a : Option Addr} {n c k m : Nat} (h : Sl a n c) (hk : k + m = n) : ∃ a' : Option Addr, (∀ w, (Instr.slice 23 (.slice a n c) (some (.int .i64 (k : Int))) none none).run Tryz.prog w = .ok (.slice a' m (c - k)) w) ∧
    (k < n → ∀ b off, a = some ⟨b, off, none⟩ → a' = some ⟨b, off + k * 5, none⟩) := by
  have hu := Tryz.underlying23
  have hs := Tryz.sizeOf66
  rcases h with ⟨rfl, rfl, rfl⟩ | ⟨g, rfl, h1, h2⟩
  · obtain rfl : k = 0 := by omega
    obtain rfl : m = 0 := by omega
    refine ⟨none, fun w => ?_, fun h => absurd h (by omega)⟩
    simp [Instr.slice, Instr.sliceBounds, Instr.sliceBound, asIntOf, run_underlying hu, hs, Sem.run_bind, Result.andThen]
  · have h3 : k ≤ n := by omega
    have e : (⟨g, 0, none⟩ : Addr).add (k * 5) = ⟨g, 0 + k * 5, none⟩ := by
      unfold Addr.add; split
      · rename_i h0; rw [h0]
      · rfl
    have hm : n - k = m := by omega
    by_cases hc : c = k
    · refine ⟨some ⟨g, 0, none⟩, fun w => ?_, fun h => absurd h (by omega)⟩
      subst hc
      simp [Instr.slice, Instr.sliceBounds, Instr.sliceBound, asIntOf, run_underlying hu, hs, Sem.run_bind, Result.andThen, h3, hm]
    · refine ⟨some ⟨g, 0 + k * 5, none⟩, fun w => ?_, fun _ b off hb => by cases hb; rfl⟩
      simp [Instr.slice, Instr.sliceBounds, Instr.sliceBound, asIntOf, run_underlying hu, hs, Sem.run_bind, Result.andThen, h3, hm, e, hc]
theorem jt_bs (a b : Wd) : bs a ++ ({ data := #[10] } : ByteArray) ++ bs b = bs (jtxt a b) := by
  have e : ({ data := #[10] } : ByteArray) = bs [10] := rfl
  rw [e, bs_append, bs_append]
  unfold jtxt
  simp
/-- Program of whatever text. -/
theorem prog_some (l : Wd) (w : World) (hl : l.length ≤ 140737488355328) (E : Env w) :
    Calls Tryz.prog 17 #[.string (bs l)] w fun e w' => ∃ a n c u, e = .returned (.tuple #[.agg #[.slice a n c], u]) ∧ Only Nil w w' := by
  cases h : prog l with
  | ok P =>
    refine (prog_ok_at l w hl E P h _ rfl).mono ?_
    rintro e w' ⟨a, c, rfl, _, o⟩
    exact ⟨a, _, c, _, rfl, o⟩
  | bad z q =>
    refine (prog_bad_any l w hl E z q h).mono ?_
    rintro e w' ⟨b, rfl, _, o⟩
    exact ⟨none, 0, 0, _, rfl, o⟩

set_option maxRecDepth 100000 in
set_option maxHeartbeats 2000000 in
theorem joins_great (a b : Wd) (w : World) (ha : a.length ≤ 140737488355328) (hb : b.length ≤ 140737488355328) (E : Env w) (T : Tab w) (hg : ¬ a.length + b.length ≤ 16000) :
    Calls Tryz.prog 8 #[.string (bs a), .string (bs b)] w fun e w' => e = .returned (.bool true) ∧ Below w.heap.size w w' := by
  have HA := Lib.hid (alive_any w E T)
  have hz : (bs a).size = a.length := bs_size a
  have hz' : (bs b).size = b.length := bs_size b
  have h1 : IntKind.i64.wrap ((a.length : Int) + (b.length : Int)) = (a.length : Int) + (b.length : Int) := IntWalk.i64_in _ (by omega)
  have h2 : (16000 : Int) < (a.length : Int) + (b.length : Int) := by omega
  clear E T hg
  go_enter Tryz.func8, Tryz.ntmps8
  go_wp2_with fail
  refine HA.out.mono ?_
  rintro e w1 ⟨rfl, o1⟩
  go_wp2
  go_ret
  exact ⟨rfl, below_nil o1⟩
set_option maxRecDepth 100000 in
set_option maxHeartbeats 4000000 in
theorem joins_end (a b : Wd) (w : World) (E : Env w) (T : Tab w) (hg : a.length + b.length ≤ 16000) (q : Nat) (h : prog a = .bad 31 q) :
    Calls Tryz.prog 8 #[.string (bs a), .string (bs b)] w fun e w' => e = .returned (.bool true) ∧ Below w.heap.size w w' := by
  have HE := Lib.hid E
  have HA := Lib.hid (alive_any w E T)
  have HP := Lib.hid (fun w E => prog_bad_any a w (by omega) E 31 q h)
  have HQ := Lib.hid (fun w E => prog_some b w (by omega) E)
  have HJ := Lib.hid (fun w E => prog_some (jtxt a b) w (by rw [jtxt_len]; omega) E)
  have hz : (bs a).size = a.length := bs_size a
  have hz' : (bs b).size = b.length := bs_size b
  have h1 : IntKind.i64.wrap ((a.length : Int) + (b.length : Int)) = (a.length : Int) + (b.length : Int) := IntWalk.i64_in _ (by omega)
  have h2 : ¬ (16000 : Int) < (a.length : Int) + (b.length : Int) := by omega
  clear E T hg h
  go_enter Tryz.func8, Tryz.ntmps8
  go_wp2_with fail
  refine HA.out.mono ?_
  rintro e w1 ⟨rfl, o1⟩
  go_wp2_with fail
  refine (HP.out w1 (HE.out.keep o1)).mono ?_
  rintro e w2 ⟨f, rfl, F, o2⟩
  have O3 := Lib.hid ((o1.trans o2).trans ((Only.refl Nil w2).alloc (.cells #[.slice none 0 0] 25)))
  have F3 := Lib.hid (F.keep ((Only.refl Nil w2).alloc (.cells #[.slice none 0 0] 25)))
  clear F o1 o2
  go_wp2_with fail
  generalize w2.alloc (.cells #[.slice none 0 0] 25) = w3 at *
  refine (HQ.out w3 (HE.out.keep O3.out)).mono ?_
  rintro e w4 ⟨a4, n4, c4, u4, rfl, o4⟩
  have O5 := Lib.hid ((O3.out.trans o4).trans ((Only.refl Nil w4).alloc (.cells #[.slice a4 n4 c4] 25)))
  have F5 := Lib.hid (F3.out.keep (o4.trans ((Only.refl Nil w4).alloc (.cells #[.slice a4 n4 c4] 25))))
  clear o4
  go_wp2_with fail
  rw [jt_bs]
  generalize w4.alloc (.cells #[.slice a4 n4 c4] 25) = w5 at *
  refine (HJ.out w5 (HE.out.keep O5.out)).mono ?_
  rintro e w6 ⟨a6, n6, c6, u6, rfl, o6⟩
  have O7 := Lib.hid ((O5.out.trans o6).trans ((Only.refl Nil w6).alloc (.cells #[.slice a6 n6 c6] 25)))
  have F7 := Lib.hid (F5.out.keep (o6.trans ((Only.refl Nil w6).alloc (.cells #[.slice a6 n6 c6] 25))))
  clear o6
  go_upto_region 9 with (fail)
  generalize w6.alloc (.cells #[.slice a6 n6 c6] 25) = w7 at *
  go_wp2_with fail
  refine (code_fault f _ _ w7 F7.out (HE.out.keep O7.out)).mono ?_
  rintro e w8 ⟨rfl, o8⟩
  go_wp2
  go_ret
  exact ⟨rfl, below_nil (O7.out.trans o8)⟩
set_option maxRecDepth 100000 in
set_option maxHeartbeats 8000000 in
theorem joins_word (a b : Wd) (w : World) (E : Env w) (T : Tab w) (hg : a.length + b.length ≤ 16000) (z q z' q' : Nat) (h : prog a = .bad z q) (hj : prog (jtxt a b) = .bad z' q') (h31 : z ≠ 31) (hc : (z' = z ∧ q' = q) ∨ z = 30) :
    Calls Tryz.prog 8 #[.string (bs a), .string (bs b)] w fun e w' => e = .returned (.bool true) ∧ Below w.heap.size w w' := by
  have HE := Lib.hid E
  have HA := Lib.hid (alive_any w E T)
  have HP := Lib.hid (fun w E => prog_bad_any a w (by omega) E z q h)
  have HQ := Lib.hid (fun w E => prog_some b w (by omega) E)
  have HJ := Lib.hid (fun w E => prog_bad_any (jtxt a b) w (by rw [jtxt_len]; omega) E z' q' hj)
  have hz : (bs a).size = a.length := bs_size a
  have hz' : (bs b).size = b.length := bs_size b
  have h1 : IntKind.i64.wrap ((a.length : Int) + (b.length : Int)) = (a.length : Int) + (b.length : Int) := IntWalk.i64_in _ (by omega)
  have h2 : ¬ (16000 : Int) < (a.length : Int) + (b.length : Int) := by omega
  have h3 : ((z : Int) == 31) = false := by simp; omega
  clear E T hg h hj
  go_enter Tryz.func8, Tryz.ntmps8
  go_wp2_with fail
  refine HA.out.mono ?_
  rintro e w1 ⟨rfl, o1⟩
  go_wp2_with fail
  refine (HP.out w1 (HE.out.keep o1)).mono ?_
  rintro e w2 ⟨f, rfl, F, o2⟩
  have O3 := Lib.hid ((o1.trans o2).trans ((Only.refl Nil w2).alloc (.cells #[.slice none 0 0] 25)))
  have F3 := Lib.hid (F.keep ((Only.refl Nil w2).alloc (.cells #[.slice none 0 0] 25)))
  clear F o1 o2
  go_wp2_with fail
  generalize w2.alloc (.cells #[.slice none 0 0] 25) = w3 at *
  refine (HQ.out w3 (HE.out.keep O3.out)).mono ?_
  rintro e w4 ⟨a4, n4, c4, u4, rfl, o4⟩
  have O5 := Lib.hid ((O3.out.trans o4).trans ((Only.refl Nil w4).alloc (.cells #[.slice a4 n4 c4] 25)))
  have F5 := Lib.hid (F3.out.keep (o4.trans ((Only.refl Nil w4).alloc (.cells #[.slice a4 n4 c4] 25))))
  clear o4
  go_wp2_with fail
  rw [jt_bs]
  generalize w4.alloc (.cells #[.slice a4 n4 c4] 25) = w5 at *
  refine (HJ.out w5 (HE.out.keep O5.out)).mono ?_
  rintro e w6 ⟨g, rfl, G, o6⟩
  have O7 := Lib.hid ((O5.out.trans o6).trans ((Only.refl Nil w6).alloc (.cells #[.slice none 0 0] 25)))
  have F7 := Lib.hid (F5.out.keep (o6.trans ((Only.refl Nil w6).alloc (.cells #[.slice none 0 0] 25))))
  have G7 := Lib.hid (G.keep ((Only.refl Nil w6).alloc (.cells #[.slice none 0 0] 25)))
  clear o6 G
  go_upto_region 9 with (fail)
  generalize w6.alloc (.cells #[.slice none 0 0] 25) = w7 at *
  have KF := Lib.hid (fun w' (o : Only Nil w7 w') => F7.out.keep o)
  have KG := Lib.hid (fun w' (o : Only Nil w7 w') => G7.out.keep o)
  have KE := Lib.hid (fun w' (o : Only Nil w7 w') => HE.out.keep (O7.out.trans o))
  have OO := Lib.hid (Only.refl Nil w7)
  rcases hc with ⟨rfl, rfl⟩ | rfl
  · go_wp2_with (first
    | (go_at_call 19; (with_reducible refine (code_fault f _ _ _ (KF.out _ OO.out) (KE.out _ OO.out)).mono ?_); rintro e wn ⟨rfl, on⟩; have O2 := Lib.hid (OO.out.trans on); clear OO on; have OO := O2; clear O2)
    | (go_at_call 19; (with_reducible refine (code_fault g _ _ _ (KG.out _ OO.out) (KE.out _ OO.out)).mono ?_); rintro e wn ⟨rfl, on⟩; have O2 := Lib.hid (OO.out.trans on); clear OO on; have OO := O2; clear O2)
    | (go_at_call 20; (with_reducible refine (at_fault f _ _ _ (KF.out _ OO.out) (KE.out _ OO.out)).mono ?_); rintro e wn ⟨rfl, on⟩; have O2 := Lib.hid (OO.out.trans on); clear OO on; have OO := O2; clear O2)
    | (go_at_call 20; (with_reducible refine (at_fault g _ _ _ (KG.out _ OO.out) (KE.out _ OO.out)).mono ?_); rintro e wn ⟨rfl, on⟩; have O2 := Lib.hid (OO.out.trans on); clear OO on; have OO := O2; clear O2))
    go_ret
    exact ⟨rfl, below_nil (O7.out.trans OO.out)⟩
  · by_cases hz3 : z' = 30
    · subst hz3
      by_cases hq3 : q' = q
      · subst hq3
        go_wp2_with (first
    | (go_at_call 19; (with_reducible refine (code_fault f _ _ _ (KF.out _ OO.out) (KE.out _ OO.out)).mono ?_); rintro e wn ⟨rfl, on⟩; have O2 := Lib.hid (OO.out.trans on); clear OO on; have OO := O2; clear O2)
    | (go_at_call 19; (with_reducible refine (code_fault g _ _ _ (KG.out _ OO.out) (KE.out _ OO.out)).mono ?_); rintro e wn ⟨rfl, on⟩; have O2 := Lib.hid (OO.out.trans on); clear OO on; have OO := O2; clear O2)
    | (go_at_call 20; (with_reducible refine (at_fault f _ _ _ (KF.out _ OO.out) (KE.out _ OO.out)).mono ?_); rintro e wn ⟨rfl, on⟩; have O2 := Lib.hid (OO.out.trans on); clear OO on; have OO := O2; clear O2)
    | (go_at_call 20; (with_reducible refine (at_fault g _ _ _ (KG.out _ OO.out) (KE.out _ OO.out)).mono ?_); rintro e wn ⟨rfl, on⟩; have O2 := Lib.hid (OO.out.trans on); clear OO on; have OO := O2; clear O2))
        go_ret
        exact ⟨rfl, below_nil (O7.out.trans OO.out)⟩
      · have h4 : ((q' : Int) == (q : Int)) = false := by simp; omega
        have h4' : (q' == q) = false := by simp; omega
        clear hq3
        go_wp2_with (first
    | (go_at_call 19; (with_reducible refine (code_fault f _ _ _ (KF.out _ OO.out) (KE.out _ OO.out)).mono ?_); rintro e wn ⟨rfl, on⟩; have O2 := Lib.hid (OO.out.trans on); clear OO on; have OO := O2; clear O2)
    | (go_at_call 19; (with_reducible refine (code_fault g _ _ _ (KG.out _ OO.out) (KE.out _ OO.out)).mono ?_); rintro e wn ⟨rfl, on⟩; have O2 := Lib.hid (OO.out.trans on); clear OO on; have OO := O2; clear O2)
    | (go_at_call 20; (with_reducible refine (at_fault f _ _ _ (KF.out _ OO.out) (KE.out _ OO.out)).mono ?_); rintro e wn ⟨rfl, on⟩; have O2 := Lib.hid (OO.out.trans on); clear OO on; have OO := O2; clear O2)
    | (go_at_call 20; (with_reducible refine (at_fault g _ _ _ (KG.out _ OO.out) (KE.out _ OO.out)).mono ?_); rintro e wn ⟨rfl, on⟩; have O2 := Lib.hid (OO.out.trans on); clear OO on; have OO := O2; clear O2))
        go_ret
        exact ⟨rfl, below_nil (O7.out.trans OO.out)⟩
    · have h4 : ((z' : Int) == 30) = false := by simp; omega
      clear hz3
      go_wp2_with (first
    | (go_at_call 19; (with_reducible refine (code_fault f _ _ _ (KF.out _ OO.out) (KE.out _ OO.out)).mono ?_); rintro e wn ⟨rfl, on⟩; have O2 := Lib.hid (OO.out.trans on); clear OO on; have OO := O2; clear O2)
    | (go_at_call 19; (with_reducible refine (code_fault g _ _ _ (KG.out _ OO.out) (KE.out _ OO.out)).mono ?_); rintro e wn ⟨rfl, on⟩; have O2 := Lib.hid (OO.out.trans on); clear OO on; have OO := O2; clear O2)
    | (go_at_call 20; (with_reducible refine (at_fault f _ _ _ (KF.out _ OO.out) (KE.out _ OO.out)).mono ?_); rintro e wn ⟨rfl, on⟩; have O2 := Lib.hid (OO.out.trans on); clear OO on; have OO := O2; clear O2)
    | (go_at_call 20; (with_reducible refine (at_fault g _ _ _ (KG.out _ OO.out) (KE.out _ OO.out)).mono ?_); rintro e wn ⟨rfl, on⟩; have O2 := Lib.hid (OO.out.trans on); clear OO on; have OO := O2; clear O2))
      go_ret
      exact ⟨rfl, below_nil (O7.out.trans OO.out)⟩
set_option maxRecDepth 100000 in
set_option maxHeartbeats 8000000 in
theorem joins_second (a b : Wd) (w : World) (E : Env w) (T : Tab w) (hg : a.length + b.length ≤ 16000) (P : List Kd) (z q : Nat) (h : prog a = .ok P) (hb : prog b = .bad z q) :
    Calls Tryz.prog 8 #[.string (bs a), .string (bs b)] w fun e w' => e = .returned (.bool true) ∧ Below w.heap.size w w' := by
  have HE := Lib.hid E
  have HA := Lib.hid (alive_any w E T)
  have HP := Lib.hid (fun w E => prog_ok_at a w (by omega) E P h _ rfl)
  have HQ := Lib.hid (fun w E => prog_bad_any b w (by omega) E z q hb)
  have HJ := Lib.hid (fun w E => prog_bad_any (jtxt a b) w (by rw [jtxt_len]; omega) E z (q + a.length + 1) (join_second hg h hb))
  have hz : (bs a).size = a.length := bs_size a
  have hz' : (bs b).size = b.length := bs_size b
  have h1 : IntKind.i64.wrap ((a.length : Int) + (b.length : Int)) = (a.length : Int) + (b.length : Int) := IntWalk.i64_in _ (by omega)
  have h2 : ¬ (16000 : Int) < (a.length : Int) + (b.length : Int) := by omega
  obtain ⟨_, hq9, _⟩ := bad_facts hb
  have h3 : IntKind.i64.wrap ((q : Int) + (a.length : Int)) = (q : Int) + (a.length : Int) := IntWalk.i64_in _ (by omega)
  have h4 : IntKind.i64.wrap ((q : Int) + (a.length : Int) + 1) = (q : Int) + (a.length : Int) + 1 := IntWalk.i64_in _ (by omega)
  have h5 : (((q + a.length + 1 : Nat) : Int) == (q : Int) + (a.length : Int) + 1) = true := by simp
  generalize q + a.length + 1 = q' at HJ h5
  clear E T hg h hb hq9
  go_enter Tryz.func8, Tryz.ntmps8
  go_wp2_with fail
  refine HA.out.mono ?_
  rintro e w1 ⟨rfl, o1⟩
  go_wp2_with fail
  refine (HP.out w1 (HE.out.keep o1)).mono ?_
  rintro e w2 ⟨a2, c2, rfl, X2, o2⟩
  have O3 := Lib.hid ((o1.trans o2).trans ((Only.refl Nil w2).alloc (.cells #[.slice a2 P.length c2] 25)))
  clear X2 o1 o2
  go_wp2_with fail
  generalize w2.alloc (.cells #[.slice a2 P.length c2] 25) = w3 at *
  refine (HQ.out w3 (HE.out.keep O3.out)).mono ?_
  rintro e w4 ⟨f, rfl, F, o4⟩
  have O5 := Lib.hid ((O3.out.trans o4).trans ((Only.refl Nil w4).alloc (.cells #[.slice none 0 0] 25)))
  have F5 := Lib.hid (F.keep ((Only.refl Nil w4).alloc (.cells #[.slice none 0 0] 25)))
  clear o4 F
  go_wp2_with fail
  rw [jt_bs]
  generalize w4.alloc (.cells #[.slice none 0 0] 25) = w5 at *
  refine (HJ.out w5 (HE.out.keep O5.out)).mono ?_
  rintro e w6 ⟨g, rfl, G, o6⟩
  have O7 := Lib.hid ((O5.out.trans o6).trans ((Only.refl Nil w6).alloc (.cells #[.slice none 0 0] 25)))
  have F7 := Lib.hid (F5.out.keep (o6.trans ((Only.refl Nil w6).alloc (.cells #[.slice none 0 0] 25))))
  have G7 := Lib.hid (G.keep ((Only.refl Nil w6).alloc (.cells #[.slice none 0 0] 25)))
  clear o6 G
  go_upto_region 11 with (fail)
  generalize w6.alloc (.cells #[.slice none 0 0] 25) = w7 at *
  have KF := Lib.hid (fun w' (o : Only Nil w7 w') => F7.out.keep o)
  have KG := Lib.hid (fun w' (o : Only Nil w7 w') => G7.out.keep o)
  have KE := Lib.hid (fun w' (o : Only Nil w7 w') => HE.out.keep (O7.out.trans o))
  have OO := Lib.hid (Only.refl Nil w7)
  go_wp2_with (first
    | (go_at_call 19; (with_reducible refine (code_fault f _ _ _ (KF.out _ OO.out) (KE.out _ OO.out)).mono ?_); rintro e wn ⟨rfl, on⟩; have O2 := Lib.hid (OO.out.trans on); clear OO on; have OO := O2; clear O2)
    | (go_at_call 19; (with_reducible refine (code_fault g _ _ _ (KG.out _ OO.out) (KE.out _ OO.out)).mono ?_); rintro e wn ⟨rfl, on⟩; have O2 := Lib.hid (OO.out.trans on); clear OO on; have OO := O2; clear O2)
    | (go_at_call 20; (with_reducible refine (at_fault f _ _ _ (KF.out _ OO.out) (KE.out _ OO.out)).mono ?_); rintro e wn ⟨rfl, on⟩; have O2 := Lib.hid (OO.out.trans on); clear OO on; have OO := O2; clear O2)
    | (go_at_call 20; (with_reducible refine (at_fault g _ _ _ (KG.out _ OO.out) (KE.out _ OO.out)).mono ?_); rintro e wn ⟨rfl, on⟩; have O2 := Lib.hid (OO.out.trans on); clear OO on; have OO := O2; clear O2))
  go_ret
  exact ⟨rfl, below_nil (O7.out.trans OO.out)⟩
set_option maxRecDepth 100000 in
set_option maxHeartbeats 8000000 in
theorem joins_both (a b : Wd) (w : World) (E : Env w) (T : Tab w) (hg : a.length + b.length ≤ 16000) (P Q : List Kd) (h : prog a = .ok P) (hb : prog b = .ok Q) :
    Calls Tryz.prog 8 #[.string (bs a), .string (bs b)] w fun e w' => e = .returned (.bool true) ∧ Below w.heap.size w w' := by
  have HE := Lib.hid E
  have HA := Lib.hid (alive_any w E T)
  have HP := Lib.hid (fun w E => prog_ok_at a w (by omega) E P h _ rfl)
  have HQ := Lib.hid (fun w E => prog_ok_at b w (by omega) E Q hb _ rfl)
  have HJ := Lib.hid (fun w E => prog_ok_sl (jtxt a b) w (by rw [jtxt_len]; omega) E (P ++ Q) (join_both hg h hb) _ (List.length_append ..))
  have hz : (bs a).size = a.length := bs_size a
  have hz' : (bs b).size = b.length := bs_size b
  have h1 : IntKind.i64.wrap ((a.length : Int) + (b.length : Int)) = (a.length : Int) + (b.length : Int) := IntWalk.i64_in _ (by omega)
  have h2 : ¬ (16000 : Int) < (a.length : Int) + (b.length : Int) := by omega
  have HSP := Lib.hid (prog_write h).2.2.1
  have HSQ := Lib.hid (prog_write hb).2.2.1
  have hPl : P.length ≤ 65000 := HSP.out.1
  have hQl : Q.length ≤ 65000 := HSQ.out.1
  have h3 : IntKind.i64.wrap ((P.length : Int) + (Q.length : Int)) = (P.length : Int) + (Q.length : Int) := IntWalk.i64_in _ (by omega)
  have h5 : (((P.length + Q.length : Nat) : Int) != (P.length : Int) + (Q.length : Int)) = false := by simp
  have HNR := Lib.hid (show (P ++ Q).length = P.length + Q.length from List.length_append ..)
  clear E T hg h hb hPl hQl
  go_enter Tryz.func8, Tryz.ntmps8
  go_wp2_with fail
  refine HA.out.mono ?_
  rintro e w1 ⟨rfl, o1⟩
  go_wp2_with fail
  refine (HP.out w1 (HE.out.keep o1)).mono ?_
  rintro e w2 ⟨a2, c2, rfl, X2, o2⟩
  have O3 := Lib.hid ((o1.trans o2).trans ((Only.refl Nil w2).alloc (.cells #[.slice a2 P.length c2] 25)))
  have X3 := Lib.hid (X2.keep ((Only.refl Nil w2).alloc (.cells #[.slice a2 P.length c2] 25)) (nilS · _))
  have B3 := Lib.hid (bx_new w2 [.slice a2 P.length c2] 25)
  change Hid (Bx (w2.alloc (.cells #[.slice a2 P.length c2] 25)) w2.heap.size [.slice a2 P.length c2] 25) at B3
  clear X2 o1 o2
  go_wp2_with fail
  generalize w2.alloc (.cells #[.slice a2 P.length c2] 25) = w3 at *
  generalize w2.heap.size = D2 at *
  refine (HQ.out w3 (HE.out.keep O3.out)).mono ?_
  rintro e w4 ⟨a4, c4, rfl, X4, o4⟩
  have o4' : Only Nil w3 (w4.alloc (.cells #[.slice a4 Q.length c4] 25)) := o4.trans ((Only.refl Nil w4).alloc _)
  have O5 := Lib.hid (O3.out.trans o4')
  have X35 := Lib.hid (X3.out.keep o4' (nilS · _))
  have B35 := Lib.hid (B3.out.keep o4')
  have X5 := Lib.hid (X4.keep ((Only.refl Nil w4).alloc (.cells #[.slice a4 Q.length c4] 25)) (nilS · _))
  have B5 := Lib.hid (bx_new w4 [.slice a4 Q.length c4] 25)
  change Hid (Bx (w4.alloc (.cells #[.slice a4 Q.length c4] 25)) w4.heap.size [.slice a4 Q.length c4] 25) at B5
  clear o4 o4' X4 X3 B3
  go_wp2_with fail
  rw [jt_bs]
  generalize w4.alloc (.cells #[.slice a4 Q.length c4] 25) = w5 at *
  generalize w4.heap.size = D4 at *
  refine (HJ.out w5 (HE.out.keep O5.out)).mono ?_
  rintro e w6 ⟨a6, c6, rfl, X6, S6, o6⟩
  have o6' : Only Nil w5 (w6.alloc (.cells #[.slice a6 (P.length + Q.length) c6] 25)) := o6.trans ((Only.refl Nil w6).alloc _)
  have O7 := Lib.hid (O5.out.trans o6')
  have X37 := Lib.hid (X35.out.keep o6' (nilS · _))
  have B37 := Lib.hid (B35.out.keep o6')
  have X57 := Lib.hid (X5.out.keep o6' (nilS · _))
  have B57 := Lib.hid (B5.out.keep o6')
  have X7 := Lib.hid (X6.keep ((Only.refl Nil w6).alloc (.cells #[.slice a6 (P.length + Q.length) c6] 25)) (nilS · _))
  have B7 := Lib.hid (bx_new w6 [.slice a6 (P.length + Q.length) c6] 25)
  change Hid (Bx (w6.alloc (.cells #[.slice a6 (P.length + Q.length) c6] 25)) w6.heap.size [.slice a6 (P.length + Q.length) c6] 25) at B7
  clear o6 o6' X6 X35 B35 X5 B5
  go_upto_region 12 with (fail)
  generalize w6.alloc (.cells #[.slice a6 (P.length + Q.length) c6] 25) = w7 at *
  generalize w6.heap.size = D6 at *
  have k3 := B37.out.cell 0 (v := .slice a2 P.length c2) rfl
  have k5 := B57.out.cell 0 (v := .slice a4 Q.length c4) rfl
  have k7 := B7.out.cell 0 (v := .slice a6 (P.length + Q.length) c6) rfl
  have l3 := cellLt k3
  have l5 := cellLt k5
  have l7 := cellLt k7
  have hpre := fun W : World => run_pre S6 (Nat.le_add_right P.length Q.length) W
  obtain ⟨a8, hsuf, hA8⟩ := run_suf S6 (k := P.length) (m := Q.length) rfl
  have XP := Lib.hid (X7.out.pre HNR.out)
  have XQ := Lib.hid (X7.out.suf HNR.out hA8)
  clear S6 hA8 X7
  have OA : Only Nil w7 ((w7.alloc (.cells #[.slice a6 P.length c6] 25)).alloc (.cells #[.slice a8 Q.length (c6 - P.length)] 25)) := ((Only.refl Nil w7).alloc _).alloc _
  have OA' := Lib.hid OA
  have S1 := Lib.hid (same_self (XP.out.keep OA (nilS · _)) (X37.out.keep OA (nilS · _)) HSP.out)
  have S2 := Lib.hid (fun w' (o : Only Nil _ w') => same_self ((XQ.out.keep OA (nilS · _)).keep o (nilS · _)) ((X57.out.keep OA (nilS · _)).keep o (nilS · _)) HSQ.out)
  have Y4 := Lib.hid ((B57.out.keep OA).cell 0 (v := .slice a4 Q.length c4) rfl)
  have Y8 := Lib.hid (show ((w7.alloc (.cells #[.slice a6 P.length c6] 25)).alloc (.cells #[.slice a8 Q.length (c6 - P.length)] 25)).cell? ⟨w7.heap.size + 1, 0, none⟩ = some (.slice a8 Q.length (c6 - P.length)) from by
    have hb := bx_new (w7.alloc (.cells #[.slice a6 P.length c6] 25)) [.slice a8 Q.length (c6 - P.length)] 25
    have hs : (w7.alloc (.cells #[.slice a6 P.length c6] 25)).heap.size = w7.heap.size + 1 := by simp
    rw [hs] at hb
    exact hb.cell 0 rfl)
  clear OA
  go_wp2_with (first
    | (go_at_call 26; (with_reducible refine S1.out.mono ?_); rintro e w8 ⟨rfl, o8⟩; have q4 := only_cell0 o8 Y4.out; have q8 := only_cell0 o8 Y8.out; have O8 := Lib.hid o8; clear o8)
    | (go_at_call 26; (with_reducible refine (S2.out _ O8.out).mono ?_); rintro e w9 ⟨rfl, o9⟩))
  go_ret
  exact ⟨rfl, below_nil (((O7.out.trans OA'.out).trans O8.out).trans o9)⟩
theorem joins_all (a b : Wd) (w : World) (ha : a.length ≤ 140737488355328) (hb : b.length ≤ 140737488355328) (E : Env w ∧ Tab w) :
    Calls Tryz.prog 8 #[.string (bs a), .string (bs b)] w fun e w' => e = .returned (.bool true) ∧ Below w.heap.size w w' := by
  by_cases hg : a.length + b.length ≤ 16000
  · cases h : prog a with
    | bad z q =>
      by_cases h31 : z = 31
      · subst h31; exact joins_end a b w E.1 E.2 hg q h
      · rcases join_bad hg h with h0 | ⟨z', q', hj, hc⟩
        · exact absurd h0 h31
        · exact joins_word a b w E.1 E.2 hg z q z' q' h hj h31 hc
    | ok P =>
      cases h2 : prog b with
      | bad z q => exact joins_second a b w E.1 E.2 hg P z q h h2
      | ok Q => exact joins_both a b w E.1 E.2 hg P Q h h2
  · exact joins_great a b w ha hb E.1 E.2 hg
end Go.Proofs.YtdhokkmflccaaaaGreatDoor.Ps
